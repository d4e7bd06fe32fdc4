/- Sea Seb -/
import Derived.Test.YtpgddamhdfmdjaaGreatDoorG6
import Derived.Test.YtpgddamhdfmdjaaGreatDoorG1
set_option linter.unusedSimpArgs false
set_option linter.unusedVariables false
set_option maxRecDepth 100000
set_option maxHeartbeats 16000000
namespace Go.Proofs.YtpgddamhdfmdjaaGreatDoor
def Is:List Tx:=[[115,101,108,101,99,116],[102,114,111,109],[119,104,101,114,101],[106,111,105,110],[111,110],[117,115,105,110,103],[103,114,111,117,112],[111,114,100,101,114],[104,97,118,105,110,103],[108,105,109,105,116],[111,102,102,115,101,116],[117,110,105,111,110],[101,120,99,101,112,116],[105,110,116,101,114,115,101,99,116],[97,115],[97,110,100],[111,114],[110,111,116],[105,110],[105,115],[110,117,108,108],[118,97,108,117,101,115],[115,101,116],[105,110,116,111],[105,110,110,101,114],[108,101,102,116],[114,105,103,104,116],[102,117,108,108],[111,117,116,101,114],[99,114,111,115,115],[110,97,116,117,114,97,108],[108,97,116,101,114,97,108],[111,110,108,121],[114,101,116,117,114,110,105,110,103],[119,105,110,100,111,119],[102,111,114],[102,101,116,99,104],[119,104,101,110],[116,104,101,110],[119,105,116,104],[116,97,98,108,101]]
def KO:Tx:=[102,114,111,109]
def LP:Tx:=[106,111,105,110]
def Kp:Tx:=[117,115,105,110,103]
def Fd:Tx:=[116,97,98,108,101]
def Jr:Tx:=[100,101,108,101,116,101]
def JJ:Tx:=[111,110,108,121]
def Rc:Tx:=[97,115]
def bi(k:Int)(ss:List Tx)(l:List Tok)(i:Nat):Bool:=match l[i]? with|some t=>t.1==k&&ss.contains t.2.1.toList|none=>false
def li(l:List Tok)(i:Nat):Bool:=match l[i]? with|some t=>t.1==2||t.1==1&& !Is.contains t.2.1.toList|none=>false
def Hz(l:List Tok)(i:Nat):Tx:=match l[i]? with|some t=>t.2.1.toList|none=>[]
def bY(l:List Tok)(i:Nat):Nat:=if li l i=false then 0 else if(bi 5 [[46]] l (i+1)&&li l (i+2))=true then 3 else 1
def rt(l:List Tok)(i:Nat):Tx:=if bY l i=3 then Hz l i++[46]++Hz l (i+2)else Hz l i
def fd(l:List Tok)(i:Nat):Nat:=if bi 1 [JJ,Fd] l i=true then i+1 else i
def asB(l:List Tok)(i:Nat):Nat:=if bi 1 [Rc] l i=true then i+1 else i
def Fn(l:List Tok)(i:Nat):Nat:=if li l (asB l i)=true then asB l i+1 else asB l i
def rd(l:List Tok)(i:Nat):Bool:=bi 5 [[44]] l i
def Ky:Nat→List Tok→Nat→List (Tx×Nat)
 |0,_,_=>[]
 |n+1,l,i=>if bY l (fd l i)=0 then []else(rt l (fd l i),fd l i)::(if rd l (Fn l (fd l i+bY l (fd l i)))=true then Ky n l (Fn l (fd l i+bY l (fd l i))+1)else [])
def Hc(l:List Tok)(i:Nat):List (Tx×Nat):=Ky (l.length-i) l i
theorem Ka{l:List Tok}{i:Nat}(h:li l i=true):i<l.length:=by
 unfold li at h
 by_cases hi:i<l.length
 ·exact hi
 ·rw[List.getElem?_eq_none (by omega)]at h;cases h
theorem Ns{k:Int}{ss:List Tx}{l:List Tok}{i:Nat}(h:bi k ss l i=true):i<l.length:=by
 unfold bi at h
 by_cases hi:i<l.length
 ·exact hi
 ·rw[List.getElem?_eq_none (by omega)]at h;cases h
theorem IQ{l:List Tok}{i:Nat}(h:bY l i≠0):i+bY l i≤l.length∧1≤bY l i∧bY l i≤3:=by
 unfold bY at h⊢
 split at h
 ·exact absurd rfl h
 ·rename_i hp
  have sD:li l i=true:=by simpa using hp
  have h1:=Ka sD;rw[if_neg hp]
  by_cases hd:(bi 5 [[46]] l (i+1)&&li l (i+2))=true
  ·rw[if_pos hd]
   have h2:=Ka (Bool.and_eq_true_iff.1 hd).2;omega
  ·rw[if_neg hd];omega
theorem Kq(l:List Tok)(i:Nat):i≤fd l i∧fd l i≤i+1:=by unfold fd;split<;>omega
theorem qbp(l:List Tok)(i:Nat):i≤asB l i∧asB l i≤i+1:=by unfold asB;split<;>omega
theorem Js(l:List Tok)(i:Nat):i≤Fn l i∧Fn l i≤i+2:=by have:=qbp l i;unfold Fn;split<;>omega
theorem Pu(l:List Tok):∀(n i:Nat),l.length-i≤n→Ky n l i=Ky (l.length-i) l i:=by
 intro n
 induction n using Nat.strongRecOn with
 |ind n ih=>
  intro i hn
  by_cases hz:bY l (fd l i)=0
  ·have e:∀m,Ky m l i=[]:=fun m=>by cases m with|zero=>rfl|succ m=>rw[Ky,if_pos hz]
   rw[e,e]
  ·have h1:=IQ hz
   have h2:=Kq l i;obtain⟨a,ha⟩:∃a,l.length-i=a+1:=⟨l.length-i-1,by omega⟩
   obtain⟨m,rfl⟩:∃m,n=m+1:=⟨n-1,by omega⟩
   rw[ha,Ky,Ky,if_neg hz,if_neg hz];have h3:=Js l (fd l i+bY l (fd l i))
   generalize Fn l (fd l i+bY l (fd l i))=b at h3
   by_cases hc:rd l b=true
   ·rw[if_pos hc,if_pos hc,ih m (by omega) (b+1) (by omega)]
    by_cases Ff:a=m
    ·subst Ff;rw[ih a (by omega) (b+1) (by omega)]
    ·rw[ih a (by omega) (b+1) (by omega)]
   ·rw[if_neg hc,if_neg hc]
theorem Jt(l:List Tok)(i:Nat):Hc l i=if bY l (fd l i)=0 then []else(rt l (fd l i),fd l i)::(if rd l (Fn l (fd l i+bY l (fd l i)))=true then Hc l (Fn l (fd l i+bY l (fd l i))+1)else []):=by
 by_cases hz:bY l (fd l i)=0
 ·rw[if_pos hz];unfold Hc;cases l.length-i with|zero=>rfl|succ n=>rw[Ky,if_pos hz]
 ·have h1:=IQ hz
  have h2:=Kq l i;have h3:=Js l (fd l i+bY l (fd l i));rw[if_neg hz];unfold Hc;obtain⟨a,ha⟩:∃a,l.length-i=a+1:=⟨l.length-i-1,by omega⟩
  rw[ha,Ky,if_neg hz]
  generalize Fn l (fd l i+bY l (fd l i))=b at h3
  by_cases hc:rd l b=true
  ·rw[if_pos hc,if_pos hc,Pu l a (b+1) (by omega)]
  ·rw[if_neg hc,if_neg hc]
theorem Ov(l:List Tok):∀(n i:Nat),l.length-i≤n→(Hc l i).length≤n:=by
 intro n
 induction n using Nat.strongRecOn with
 |ind n ih=>
  intro i hn;rw[Jt]
  split
  ·exact Nat.zero_le _
  ·rename_i hz
   have h1:=IQ hz;have h2:=Kq l i;have h3:=Js l (fd l i+bY l (fd l i))
   generalize Fn l (fd l i+bY l (fd l i))=b at h3
   split
   ·have:=ih (n-1) (by omega) (b+1) (by omega)
    simp only[List.length_cons];omega
   ·simp only[List.length_cons,List.length_nil];omega
def Iq(l:List Tok)(i:Nat):Bool:=bi 1 [LP,Kp] l i||bi 1 [KO] l i&& !(i != 0&&bi 1 [Jr] l (i-1))||i==0&&bi 1 [Fd] l i
def ci(l:List Tok)(i:Nat):List Tx:=if Iq l i=true then(Hc l (i+1)).map (·.1)else []
def H6(f:Nat→List Tx):Nat→List Tx
 |0=>[]
 |n+1=>H6 f n++f n
def Hs(l:List Tx)(s:Tx):List Tx:=if l.contains s=true then l else l.takeWhile (fun x=>decide (x<s))++[s]++l.dropWhile (fun x=>decide (x<s))
def Gw(l:List Tx):List Tx:=l.foldl Hs []
def JK(l:List Tok):List Tx:=Gw (H6 (ci l) l.length)
abbrev Kb(l:List Tx):Prop:=l.Pairwise (· < ·)
theorem LQ(a:Tx):¬a<a:=List.lt_irrefl a
theorem Rd{a b c:Tx}(h:a<b)(h2:b<c):a<c:=List.lt_trans h h2
theorem Y2(a b:Tx):a<b∨a=b∨b<a:=by
 by_cases h:a<b
 ·exact .inl h
 ·by_cases h2:b<a
  ·exact .inr (.inr h2)
  ·exact .inr (.inl (List.le_antisymm (List.not_lt.1 h2) (List.not_lt.1 h)))
theorem SO:∀(a b:List Tx),Kb a→Kb b→(∀s,s∈a↔s∈b)→a=b:=by
 intro a
 induction a with
 |nil=>
  intro b _ _ h
  cases b with
  |nil=>rfl
  |cons y t=>exact absurd ((h y).2 (List.mem_cons_self ..)) (by simp)
 |cons x r ih=>
  intro b ha hb h
  cases b with
  |nil=>exact absurd ((h x).1 (List.mem_cons_self ..)) (by simp)
  |cons y t=>
   obtain⟨hx,hr⟩:=List.pairwise_cons.1 ha;obtain⟨hy,ht⟩:=List.pairwise_cons.1 hb;have pN:x=y:=by
    rcases List.mem_cons.1 ((h x).1 (List.mem_cons_self ..))with e|e
    ·exact e
    ·rcases List.mem_cons.1 ((h y).2 (List.mem_cons_self ..))with e2|e2
     ·exact e2.symm
     ·exact absurd (Rd (hy x e) (hx y e2)) (LQ _)
   subst pN;rw[ih t hr ht fun s=>⟨fun hs=>?_,fun hs=>?_⟩]
   ·rcases List.mem_cons.1 ((h s).1 (List.mem_cons_of_mem _ hs))with e|e
    ·subst e;exact absurd (hx _ hs) (LQ _)
    ·exact e
   ·rcases List.mem_cons.1 ((h s).2 (List.mem_cons_of_mem _ hs))with e|e
    ·subst e;exact absurd (hy _ hs) (LQ _)
    ·exact e
theorem Lo(l:List Tx)(s x:Tx):x∈Hs l s↔x=s∨x∈l:=by
 unfold Hs
 split
 ·rename_i h
  have h2:s∈l:=by simpa using h
  constructor
  ·exact .inr
  ·rintro(e|e)
   ·rw[e];exact h2
   ·exact e
 ·have e:∀y,y∈l↔y∈l.takeWhile (fun x=>decide (x<s))∨y∈l.dropWhile (fun x=>decide (x<s)):=fun y=>by rw[←List.mem_append,List.takeWhile_append_dropWhile]
  rw[e];simp only[List.mem_append,List.mem_singleton];constructor
  ·rintro((h|h)|h)
   ·exact .inr (.inl h)
   ·exact .inl h
   ·exact .inr (.inr h)
  ·rintro(h|h|h)
   ·exact .inl (.inr h)
   ·exact .inl (.inl h)
   ·exact .inr h
theorem Re(s:Tx):∀l:List Tx,Kb l→(∀y∈l.takeWhile (fun x=>decide (x<s)),y<s)∧(∀y∈l.dropWhile (fun x=>decide (x<s)),¬y<s):=by
 intro l
 induction l with
 |nil=>intro _;exact⟨fun y h=>by simp at h,fun y h=>by simp at h⟩
 |cons x r ih=>
  intro h;obtain⟨hx,hr⟩:=List.pairwise_cons.1 h;obtain⟨i1,i2⟩:=ih hr
  by_cases c:x<s
  ·have d:decide (x<s)=true:=by simpa using c
   rw[List.takeWhile_cons,List.dropWhile_cons];simp only[d,if_true];exact⟨fun y hy=>(List.mem_cons.1 hy).elim (fun e=>by rw[e];exact c) (i1 y),i2⟩
  ·have d:decide (x<s)=false:=by simpa using c
   rw[List.takeWhile_cons,List.dropWhile_cons];simp only[d,Bool.false_eq_true,if_false];refine⟨fun y hy=>by simp at hy,fun y hy=>?_⟩
   rcases List.mem_cons.1 hy with e|e
   ·rw[e];exact c
   ·exact fun h2=>c (Rd (hx y e) h2)
theorem Wf(l:List Tx)(s:Tx)(h:Kb l):Kb (Hs l s):=by
 unfold Hs
 split
 ·exact h
 ·rename_i hn
  have iP:s∉l:=by simpa using hn
  obtain⟨h1,h2⟩:=Re s l h;have hl:Kb (l.takeWhile (fun x=>decide (x<s))++l.dropWhile (fun x=>decide (x<s))):=by rw[List.takeWhile_append_dropWhile];exact h
  obtain⟨g1,g2,g3⟩:=List.pairwise_append.1 hl;have hd:∀y∈l.dropWhile (fun x=>decide (x<s)),s<y:=fun y hy=>by
   rcases Y2 s y with c|c|c
   ·exact c
   ·exact absurd (by rw[c];exact(List.dropWhile_sublist _).mem hy) iP
   ·exact absurd c (h2 y hy)
  rw[List.append_assoc];refine List.pairwise_append.2 ⟨g1,List.pairwise_append.2 ⟨List.pairwise_singleton ..,g2,fun a ha b hb=>?_⟩,fun a ha b hb=>?_⟩
  ·rw[List.mem_singleton.1 ha];exact hd b hb
  ·rcases List.mem_append.1 hb with hb|hb
   ·rw[List.mem_singleton.1 hb];exact h1 a ha
   ·exact g3 a ha b hb
theorem LY(m:List Tx):∀l:List Tx,Kb l→Kb (m.foldl Hs l)∧∀s,s∈m.foldl Hs l↔s∈l∨s∈m:=by
 induction m with
 |nil=>intro l h;exact⟨h,fun s=>by simp⟩
 |cons x r ih=>
  intro l h;obtain⟨a,b⟩:=ih (Hs l x) (Wf l x h);refine⟨a,fun s=>?_⟩
  rw[List.foldl_cons,b,Lo,List.mem_cons];constructor
  ·rintro((h|h)|h)
   ·exact .inr (.inl h)
   ·exact .inl h
   ·exact .inr (.inr h)
  ·rintro(h|h|h)
   ·exact .inl (.inr h)
   ·exact .inl (.inl h)
   ·exact .inr h
theorem SP(l:List Tx):Kb (Gw l):=(LY l [] List.Pairwise.nil).1
theorem Rf(l:List Tx)(s:Tx):s∈Gw l↔s∈l:=by rw[Gw,(LY l [] List.Pairwise.nil).2];simp
theorem qaZ{l m:List Tx}(h:Kb m)(hm:∀s,s∈m↔s∈l):m=Gw l:=SO _ _ h (SP l) fun s=>by rw[Rf,hm]
theorem Rg(l m:List Tx):Gw (l++m)=m.foldl Hs (Gw l):=by unfold Gw;rw[List.foldl_append]
theorem Y3(f:Nat→List Tx):∀(n:Nat) (s:Tx),s∈H6 f n↔∃i,i<n∧s∈f i:=by
 intro n
 induction n with
 |zero=>intro s;simp[H6]
 |succ n ih=>
  intro s;rw[H6,List.mem_append,ih];constructor
  ·rintro(⟨i,h,h2⟩|h)
   ·exact⟨i,by omega,h2⟩
   ·exact⟨n,by omega,h⟩
  ·rintro⟨i,h,h2⟩
   by_cases e:i=n
   ·subst e;exact .inr h2
   ·exact .inl ⟨i,by omega,h2⟩
end Go.Proofs.YtpgddamhdfmdjaaGreatDoor

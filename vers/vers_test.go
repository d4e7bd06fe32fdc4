package vers

import (
	"maps"
	"math"
	"slices"
	"strconv"
	"strings"
	"testing"
	"unsafe"
)

// These tests speak of a name by one letter; _ is the empty name.
// What happens is told as in "ab 1+ab 2+b ! 1-": a and b are bumped, 1 has a and b dirty, 2 has b dirty, all is bumped, 1 is clean.

// universe is the names that are looked at wherever all are.
const universe = "abc_"

// names is the names of letters.
func names(letters string) []string {
	var l []string
	for _, letter := range letters {
		l = append(l, strings.Trim(string(letter), "_"))
	}
	return l
}

// happen lets happen what a text tells.
func happen(t *testing.T, v *Vers, text string) {
	t.Helper()
	for _, what := range strings.Fields(text) {
		client, letters, is := strings.Cut(what, "+")
		switch {
		case is:
			v.Dirty(number(t, client), names(letters))
		case strings.HasSuffix(what, "-"):
			v.Clean(number(t, strings.TrimSuffix(what, "-")))
		case what == "!":
			v.All()
		default:
			v.Bump(names(what))
		}
	}
	sane(t, v)
}

// number is a client's number.
func number(t *testing.T, text string) int {
	t.Helper()
	n, err := strconv.Atoi(text)
	if err != nil {
		t.Fatal(err)
	}
	return n
}

// after is one in which has happened what a text tells.
func after(t *testing.T, text string) *Vers {
	t.Helper()
	v := New()
	if v == nil {
		t.Fatal("New = nil")
	}
	happen(t, v, text)
	return v
}

// sane checks that no more is kept than is needed: no names of which nothing is known, no clients that have nothing dirty, and counts that are right.
func sane(t *testing.T, v *Vers) {
	t.Helper()
	for name, num := range v.nums {
		if num < 1 {
			t.Errorf("%q is kept with %d", name, num)
		}
	}
	counts := map[string]int{}
	for client, own := range v.dirty.names {
		if len(own) == 0 {
			t.Errorf("%d is kept without names", client)
		}
		for name := range own {
			counts[name]++
		}
	}
	if !maps.Equal(counts, v.dirty.counts) {
		t.Errorf("counts are %v, want %v", v.dirty.counts, counts)
	}
}

// show is all of one, as text.
func show(v *Vers) string {
	s := "epoch " + strconv.Itoa(v.Take(nil).Epoch)
	for _, name := range slices.Sorted(maps.Keys(v.nums)) {
		s += " " + strconv.Quote(name) + strconv.Itoa(v.Num(name))
	}
	for _, client := range slices.Sorted(maps.Keys(v.dirty.names)) {
		s += " | " + strconv.Itoa(client)
		for _, name := range slices.Sorted(maps.Keys(v.dirty.names[client])) {
			s += " " + strconv.Quote(name)
		}
	}
	return s
}

// counts checks the epoch, and the numbers of the names of the universe.
func counts(t *testing.T, v *Vers, epoch int, nums ...int) {
	t.Helper()
	for i, name := range names(universe) {
		if got := v.Num(name); got != nums[i] {
			t.Errorf("Num(%q) = %d, want %d", name, got, nums[i])
		}
	}
	takes(t, v, names(universe), Stamp{epoch, names(universe), nums})
	sane(t, v)
}

// takes checks a Take, and that what it tells is fresh now.
func takes(t *testing.T, v *Vers, l []string, want Stamp) {
	t.Helper()
	got := v.Take(l)
	if got.Epoch != want.Epoch || !slices.Equal(got.Names, want.Names) || !slices.Equal(got.Nums, want.Nums) {
		t.Errorf("Take(%q) = %v, want %v", l, got, want)
	}
	fresh(t, v, got, true)
}

// fresh checks a Fresh.
func fresh(t *testing.T, v *Vers, s Stamp, want bool) {
	t.Helper()
	if got := v.Fresh(s); got != want {
		t.Errorf("Fresh(%v) = %t, want %t", s, got, want)
	}
}

// busy checks which names of the universe are busy: each alone, and in all lists of names, each rising and falling, and doubled.
func busy(t *testing.T, v *Vers, letters string) {
	t.Helper()
	all := names(universe)
	for chosen := range 1 << len(all) {
		var l []string
		want := false
		for i, name := range all {
			if chosen>>i&1 == 1 {
				l = append(l, name)
				want = want || strings.Contains(letters, universe[i:i+1])
			}
		}
		turned := slices.Clone(l)
		slices.Reverse(turned)
		for _, asked := range [][]string{l, turned, slices.Concat(l, turned)} {
			if got := v.Busy(asked); got != want {
				t.Errorf("Busy(%q) = %t, want %t", asked, got, want)
			}
		}
	}
}

// copyOf is a copy of a struct, which New did not give.
func copyOf[T any](p *T) *T {
	c := *p
	return &c
}

// P13.1, P13.3: the example of the chapter
func TestExample(t *testing.T) {
	v := New()
	s := v.Take([]string{"a"})
	v.Bump([]string{"b"})
	fresh(t, v, s, true)
	v.Bump([]string{"a"})
	fresh(t, v, s, false)
}

// P13.1, P13.3: how often names were bumped, and all were
func TestBump(t *testing.T) {
	for _, f := range []struct {
		text  string
		epoch int
		nums  [4]int
	}{
		{"", 0, [4]int{0, 0, 0, 0}},
		{"a", 0, [4]int{1, 0, 0, 0}}, {"b", 0, [4]int{0, 1, 0, 0}}, {"_", 0, [4]int{0, 0, 0, 1}}, {"z", 0, [4]int{0, 0, 0, 0}},
		{"ab", 0, [4]int{1, 1, 0, 0}}, {"ba", 0, [4]int{1, 1, 0, 0}}, {"abc_", 0, [4]int{1, 1, 1, 1}}, {"_b", 0, [4]int{0, 1, 0, 1}},
		// One that is there twice, or three times, counts once.
		{"aa", 0, [4]int{1, 0, 0, 0}}, {"aaa", 0, [4]int{1, 0, 0, 0}}, {"__", 0, [4]int{0, 0, 0, 1}}, {"aba", 0, [4]int{1, 1, 0, 0}}, {"baab", 0, [4]int{1, 1, 0, 0}}, {"bcb", 0, [4]int{0, 1, 1, 0}}, {"_a_a_", 0, [4]int{1, 0, 0, 1}},
		{"a aa", 0, [4]int{2, 0, 0, 0}}, {"aa a aaa", 0, [4]int{3, 0, 0, 0}}, {"aba bb", 0, [4]int{1, 2, 0, 0}}, {"a b a aab", 0, [4]int{3, 2, 0, 0}},
		// In several calls it counts each time.
		{"a a", 0, [4]int{2, 0, 0, 0}}, {"a a a a a", 0, [4]int{5, 0, 0, 0}}, {"ab bc cb", 0, [4]int{1, 3, 2, 0}}, {"_ _b a_", 0, [4]int{1, 1, 0, 3}},
		// All is the epoch, and no name's number.
		{"!", 1, [4]int{0, 0, 0, 0}}, {"! !", 2, [4]int{0, 0, 0, 0}}, {"! ! ! !", 4, [4]int{0, 0, 0, 0}}, {"a ! b", 1, [4]int{1, 1, 0, 0}}, {"! a ! a ! ab", 3, [4]int{3, 1, 0, 0}}, {"abc_ !", 1, [4]int{1, 1, 1, 1}},
		// Who has what dirty changes no number.
		{"1+ab 2+_", 0, [4]int{0, 0, 0, 0}}, {"1+a a 1- ! 1+ab", 1, [4]int{1, 0, 0, 0}}, {"1-", 0, [4]int{0, 0, 0, 0}},
	} {
		v := after(t, f.text)
		counts(t, v, f.epoch, f.nums[:]...)
		// Lists without names bump nothing.
		v.Bump(nil)
		v.Bump([]string{})
		v.Bump([]string{"a", "b"}[:0])
		counts(t, v, f.epoch, f.nums[:]...)
	}
}

// P13.2: who has what dirty
func TestBusy(t *testing.T) {
	for _, f := range []struct{ text, busy string }{
		{"", ""}, {"1+a", "a"}, {"1+b", "b"}, {"1+_", "_"}, {"1+z", ""}, {"1+abc_", "abc_"}, {"1+a 1+c", "ac"}, {"1+_ 1+a", "a_"},
		{"1+a 1-", ""}, {"1+abc_ 1-", ""}, {"1+a 1+b 1-", ""}, {"1+a 1- 1+b", "b"}, {"1+a 1- 1+a", "a"},
		// Twice dirty by one client is clean at once.
		{"1+aa", "a"}, {"1+aa 1-", ""}, {"1+a 1+a 1-", ""}, {"1+aaa 1+ab 1+ba 1-", ""}, {"1+__ 1+_ 1-", ""},
		// By several
		{"1+a 2+a", "a"}, {"1+a 2+a 1-", "a"}, {"1+a 2+a 2-", "a"}, {"1+a 2+a 1- 2-", ""}, {"1+a 2+a 2- 1-", ""}, {"1+_ 2+_ 1-", "_"}, {"1+_ 2+_ 1- 2-", ""},
		{"1+ab 2+bc", "abc"}, {"1+ab 2+bc 1-", "bc"}, {"1+ab 2+bc 2-", "ab"}, {"1+ab 2+bc 1- 2-", ""}, {"1+ab 2+bb 1-", "b"}, {"1+a 2+aa 2-", "a"}, {"1+aa 2+a 2- 2-", "a"},
		{"1+a 2+a 3+a 1- 3-", "a"}, {"1+a 2+a 3+a 1- 3- 2-", ""}, {"1+a 2+a 1- 1+a 2-", "a"}, {"1+a 2+a 1- 1+a 2- 1-", ""}, {"1+a 2+b 1- 1+c", "bc"},
		// Clean of one that has nothing dirty, and twice
		{"1-", ""}, {"1- 1-", ""}, {"2+a 1-", "a"}, {"2+a 1- 1- 1-", "a"}, {"1+a 2+a 1- 1-", "a"}, {"1+a 1- 1-", ""}, {"1- 1+a", "a"}, {"1- 1- 1+a 2+a 2- 2-", "a"},
		// Clients that are nearly alike
		{"0+a 1-", "a"}, {"0+a 0-", ""}, {"-1+a 1-", "a"}, {"-1+a -1-", ""}, {"1+a -1-", "a"}, {"1+a -1+b 1-", "b"}, {"1+a -1+b -1-", "a"},
		{"4294967297+a 1-", "a"}, {"1+a 4294967297-", "a"}, {"4294967297+a 1+b 4294967297-", "b"},
		{"9223372036854775807+a -1-", "a"}, {"9223372036854775807+a 9223372036854775807-", ""}, {"-9223372036854775808+a 0- 9223372036854775807-", "a"}, {"-9223372036854775808+ab 0+b -9223372036854775808-", "b"},
		// What is bumped is neither dirty nor clean by that.
		{"a", ""}, {"abc_ !", ""}, {"1+a a", "a"}, {"1+a b ! a !", "a"}, {"1+ab 2+b b ! 1- a", "b"}, {"a 1+b 1- b", ""},
	} {
		v := after(t, f.text)
		busy(t, v, f.busy)
		before := show(v)
		for _, none := range [][]string{nil, {}, []string{"a", "b"}[:0]} {
			// Lists without names make nothing dirty, and are not busy.
			for _, client := range []int{0, 1, 2, 7, -1, math.MaxInt, math.MinInt} {
				v.Dirty(client, none)
			}
			if v.Busy(none) {
				t.Errorf("%q: Busy of no names", f.text)
			}
		}
		if show(v) != before {
			t.Errorf("%q: there is %s, want %s", f.text, show(v), before)
		}
		busy(t, v, f.busy)
	}
}

// P13.2: clients of any int, each for itself
func TestClients(t *testing.T) {
	clients := []int{0, 1, -1, 2, 1000, 1001, 1 << 31, 1<<31 - 1, -1 << 31, 1 << 32, 1<<32 + 1, 1 << 62, math.MaxInt, math.MaxInt - 1, math.MinInt, math.MinInt + 1}
	v := New()
	for i, client := range clients {
		v.Dirty(client, []string{"all", strconv.Itoa(i)})
	}
	for i, client := range clients {
		for j := range clients {
			if got := v.Busy([]string{strconv.Itoa(j)}); got != (j >= i) {
				t.Errorf("%d are clean: of the %d. client it is %t", i, j, got)
			}
		}
		if !v.Busy([]string{"all"}) {
			t.Errorf("%d are clean: all are", i)
		}
		v.Clean(client)
		sane(t, v)
	}
	if v.Busy([]string{"all"}) {
		t.Error("all are clean")
	}
}

// P13.3: names stand in a stamp as they are handed in
func TestTake(t *testing.T) {
	v := after(t, "ab ! b b ! _ !")
	for _, f := range []struct {
		letters string
		nums    []int
	}{
		{"", nil}, {"a", []int{1}}, {"b", []int{3}}, {"c", []int{0}}, {"_", []int{1}}, {"z", []int{0}},
		{"ab", []int{1, 3}}, {"ba", []int{3, 1}}, {"cab_", []int{0, 1, 3, 1}}, {"_bac", []int{1, 3, 1, 0}},
		{"aa", []int{1, 1}}, {"bb", []int{3, 3}}, {"bab", []int{3, 1, 3}}, {"ccc", []int{0, 0, 0}}, {"__", []int{1, 1}}, {"abba_c_", []int{1, 3, 3, 1, 1, 0, 1}},
	} {
		before := show(v)
		takes(t, v, names(f.letters), Stamp{3, names(f.letters), f.nums})
		if show(v) != before {
			t.Errorf("there is %s, want %s", show(v), before)
		}
	}
	takes(t, v, []string{}, Stamp{Epoch: 3})
	takes(t, v, []string{"a", "b"}[:0], Stamp{Epoch: 3})
	takes(t, New(), nil, Stamp{})
	takes(t, New(), []string{}, Stamp{})
}

// P13.3: which stamps are fresh, as they are made up
func TestFresh(t *testing.T) {
	v := after(t, "ab ! b b ! _ 1+a 2+c")
	for _, f := range []struct {
		epoch   int
		letters string
		nums    []int
		want    bool
	}{
		{2, "", nil, true}, {2, "", []int{}, true}, {0, "", nil, false}, {1, "", nil, false}, {3, "", nil, false}, {-2, "", nil, false}, {math.MaxInt, "", nil, false}, {math.MinInt, "", nil, false}, {1<<32 + 2, "", nil, false},
		{2, "a", []int{1}, true}, {1, "a", []int{1}, false}, {3, "a", []int{1}, false}, {2, "a", []int{0}, false}, {2, "a", []int{2}, false}, {2, "a", []int{-1}, false}, {2, "a", []int{1<<32 + 1}, false}, {2, "a", []int{math.MinInt + 1}, false},
		{2, "b", []int{3}, true}, {2, "b", []int{2}, false}, {2, "b", []int{4}, false}, {2, "b", []int{1}, false},
		{2, "c", []int{0}, true}, {2, "c", []int{1}, false}, {2, "c", []int{-1}, false}, {2, "_", []int{1}, true}, {2, "_", []int{0}, false}, {2, "z", []int{0}, true}, {2, "z", []int{2}, false},
		// As many Nums as Names, in the names' order
		{2, "ab", []int{1, 3}, true}, {2, "ba", []int{3, 1}, true}, {2, "ba", []int{1, 3}, false}, {2, "ab", []int{1, 2}, false}, {2, "ab", []int{0, 3}, false}, {2, "ab", []int{2, 3}, false}, {2, "ab", []int{1, 4}, false},
		{2, "ab", []int{1}, false}, {2, "ab", []int{3}, false}, {2, "ab", nil, false}, {2, "ab", []int{1, 3, 0}, false}, {2, "ab", []int{1, 3, 3}, false}, {2, "a", nil, false}, {2, "c", nil, false}, {2, "c", []int{}, false},
		{2, "", []int{0}, false}, {2, "", []int{2}, false}, {2, "c", []int{0, 0}, false}, {2, "a", []int{1, 1}, false}, {2, "a", []int{1, 0}, false},
		{2, "abc_", []int{1, 3, 0, 1}, true}, {2, "abc_", []int{1, 3, 1, 1}, false}, {2, "abc_", []int{1, 3, 0, 0}, false}, {2, "abc_", []int{0, 3, 0, 1}, false}, {1, "abc_", []int{1, 3, 0, 1}, false},
		// A name that is there twice has its number twice.
		{2, "aa", []int{1, 1}, true}, {2, "aa", []int{1, 0}, false}, {2, "aa", []int{0, 1}, false}, {2, "aa", []int{1, 2}, false}, {2, "bab", []int{3, 1, 3}, true}, {2, "bab", []int{3, 1, 2}, false}, {2, "bab", []int{2, 1, 3}, false},
	} {
		before := show(v)
		fresh(t, v, Stamp{f.epoch, names(f.letters), f.nums}, f.want)
		if show(v) != before {
			t.Errorf("there is %s, want %s", show(v), before)
		}
	}
	// A zero stamp is one of no names at the beginning.
	fresh(t, v, Stamp{}, false)
	fresh(t, New(), Stamp{}, true)
	fresh(t, New(), Stamp{Names: names("a"), Nums: []int{0}}, true)
	fresh(t, New(), Stamp{Names: names("a")}, false)
	fresh(t, New(), Stamp{Nums: []int{0}}, false)
	fresh(t, New(), Stamp{Epoch: 1}, false)
	fresh(t, New(), Stamp{Epoch: -1}, false)
}

// P13.3: a stamp one part of which is one more, or one less
func TestFreshNearly(t *testing.T) {
	for _, text := range []string{"", "a", "abc_ !", "aab b ! ! c 1+a", "! ! ! _ _ _"} {
		v := after(t, text)
		for _, letters := range []string{"", "a", "ab", "aa", "cba_", "zzabc"} {
			for _, by := range []int{-1, 1} {
				s := v.Take(names(letters))
				s.Epoch += by
				fresh(t, v, s, false)
				for i := range letters {
					s := v.Take(names(letters))
					s.Nums[i] += by
					fresh(t, v, s, false)
					s.Nums[i] -= by
					fresh(t, v, s, true)
				}
			}
			s := v.Take(names(letters))
			for _, more := range []int{0, 1, v.Num("a")} {
				fresh(t, v, Stamp{s.Epoch, s.Names, append(slices.Clone(s.Nums), more)}, false)
			}
			fresh(t, v, Stamp{s.Epoch, append(slices.Clone(s.Names), "z"), s.Nums}, false)
			if len(letters) > 0 {
				fresh(t, v, Stamp{s.Epoch, s.Names, s.Nums[1:]}, false)
				fresh(t, v, Stamp{s.Epoch, s.Names[1:], s.Nums}, false)
				fresh(t, v, Stamp{s.Epoch, s.Names, nil}, false)
				fresh(t, v, Stamp{s.Epoch, nil, s.Nums}, false)
				fresh(t, v, Stamp{s.Epoch, s.Names[1:], s.Nums[1:]}, true)
			}
		}
	}
}

// P13.5: till when a stamp is fresh, and that it is never so again
func TestFreshTill(t *testing.T) {
	for _, from := range []string{"", "ab ! c", "1+abc_", "a a b _ ! ! 2+a 2-"} {
		for _, f := range []struct {
			letters, text string
			want          bool
		}{
			{"a", "", true}, {"a", "b", true}, {"a", "bc_ b c", true}, {"a", "z", true}, {"a", "a", false}, {"a", "ba", false}, {"a", "b a b", false}, {"a", "!", false}, {"a", "b !", false},
			{"_", "abc", true}, {"_", "_", false}, {"_", "!", false},
			{"ab", "c", true}, {"ab", "a", false}, {"ab", "b", false}, {"ab", "cbc", false}, {"ab", "_", true}, {"ab", "!", false}, {"aa", "b", true}, {"aa", "a", false}, {"aa", "aa", false},
			{"", "", true}, {"", "abc_", true}, {"", "a b c _ z aa", true}, {"", "!", false}, {"", "a ! a", false},
			{"abc_", "z", true}, {"abc_", "_", false}, {"abc_", "a", false}, {"abc_", "c", false},
			// Who has what dirty changes nothing.
			{"a", "1+a 2+ab 1- 2-", true}, {"", "1+a 1-", true}, {"abc_", "1+abc_ 1+a 2+_", true}, {"a", "1+a a 1-", false}, {"a", "1- 2-", true}, {"a", "1+a b", true},
		} {
			v := after(t, from)
			s := v.Take(names(f.letters))
			fresh(t, v, s, true)
			happen(t, v, f.text)
			fresh(t, v, s, f.want)
			// To be asked, and to be taken again, changes nothing.
			again := v.Take(names(f.letters))
			fresh(t, v, again, true)
			fresh(t, v, s, f.want)
			happen(t, v, "z 1+a a")
			fresh(t, v, s, f.want && !strings.Contains(f.letters, "a"))
			happen(t, v, "b c _ ! a ! 1-")
			fresh(t, v, s, false)
			fresh(t, v, again, false)
		}
	}
}

// P13.1 to P13.3: names are any bytes; no two are taken as one
func TestNames(t *testing.T) {
	all := []string{"", "\x00", "\x00\x00", "a\x00", "a", "A", " a", "a ", "\xff", "\xff\xfe", "\x80", "\xc3\xa9", "e\xcc\x81", "a\nb", "a.b", "'", "\"", "1", "01", strings.Repeat("k", 5000), strings.Repeat("k", 5001)}
	v := New()
	for i, name := range all {
		s := v.Take(all)
		for range i + 1 {
			v.Bump([]string{name})
		}
		v.Dirty(i, []string{name})
		for j, other := range all {
			want := 0
			if j <= i {
				want = j + 1
			}
			if v.Num(other) != want || v.Busy([]string{other}) != (j <= i) || v.Fresh(Stamp{0, s.Names[j : j+1], s.Nums[j : j+1]}) != (i != j) {
				t.Errorf("behind %q: of %q there is %d, busy %t", name, other, v.Num(other), v.Busy([]string{other}))
			}
		}
	}
	for i, name := range all {
		v.Clean(i)
		if v.Busy([]string{name}) || v.Busy(all) != (i < len(all)-1) {
			t.Errorf("%q is busy", name)
		}
	}
	if s := v.Take(all); !slices.Equal(s.Names, all) || s.Nums[20] != 21 {
		t.Errorf("a stamp is %v", s)
	}
}

// P13.4: a copy stands there, and goes its own way
func TestCopy(t *testing.T) {
	const from = "abb a ! a _ ! 1+ab 2+b 3+_"
	for _, change := range []string{"a", "b", "c", "_", "abc_", "z", "!", "1+c", "2+a", "7+a", "-1+z", "1-", "2-", "3-", "1- 2- 3-", "a 1- ! 4+abc_"} {
		v := after(t, from)
		before := show(v)
		s := v.Take(names(universe))
		c := v.Copy()
		if c == v {
			t.Fatal("a copy is the thing itself")
		}
		stands := func(v *Vers) {
			t.Helper()
			counts(t, v, 2, 3, 1, 0, 1)
			busy(t, v, "ab_")
			fresh(t, v, s, true)
			if show(v) != before {
				t.Errorf("there is %s, want %s", show(v), before)
			}
		}
		stands(c)
		happen(t, c, change)
		stands(v)
		left := show(c)
		if left == before {
			t.Errorf("%q: nothing changed", change)
		}
		d := c.Copy().Copy()
		happen(t, v, change)
		if show(v) != left {
			t.Errorf("%q: there is %s, of a copy %s", change, show(v), left)
		}
		happen(t, v, "a ! 1+z 2- 3-")
		if show(c) != left || show(d) != left {
			t.Errorf("%q: copies are %s and %s, want %s", change, show(c), show(d), left)
		}
	}
	c := New().Copy()
	counts(t, c, 0, 0, 0, 0, 0)
	busy(t, c, "")
	happen(t, c, "a ! 1+a")
	counts(t, c, 1, 1, 0, 0, 0)
	busy(t, c, "a")
}

// P13.4: stamps of the one are asked of the other by what stands in them
func TestCopyStamps(t *testing.T) {
	v := after(t, "a b")
	c := v.Copy()
	s := v.Take(names("ab"))
	fresh(t, c, s, true)
	happen(t, v, "a")
	fresh(t, c, s, true)
	fresh(t, c, v.Take(names("ab")), false)
	happen(t, c, "a")
	fresh(t, v, s, false)
	fresh(t, v, c.Take(names("ab")), true)
	happen(t, c, "!")
	fresh(t, v, c.Take(nil), false)
	happen(t, v, "!")
	fresh(t, v, c.Take(names("ba")), true)
}

// P13.3: what is told goes its own way
func TestToldIsNew(t *testing.T) {
	v := after(t, "ab ! b 1+c")
	before := show(v)
	for _, letters := range []string{"a", "ab", "abc", "abc_z", "bb"} {
		first, second := v.Take(names(letters)), v.Take(names(letters))
		want := slices.Clone(second.Nums)
		for i := range first.Names[:cap(first.Names)] {
			first.Names[:cap(first.Names)][i] = "spoilt"
		}
		for i := range first.Nums[:cap(first.Nums)] {
			first.Nums[:cap(first.Nums)][i] = 77
		}
		takes(t, v, names(letters), Stamp{1, names(letters), want})
		if !slices.Equal(second.Names, names(letters)) || !slices.Equal(second.Nums, want) || show(v) != before {
			t.Errorf("a stamp became %v; there is %s, want %s", second, show(v), before)
		}
		fresh(t, v, first, false)
		fresh(t, v, second, true)
	}
}

// P13.1 to P13.3: lists that are handed in are neither changed nor kept, nor is the room behind them
func TestHandedIn(t *testing.T) {
	v := New()
	room := []string{"b", "a", "b", "c", "d", "e"}
	l := room[:3]
	v.Bump(l)
	v.Dirty(1, l)
	s := v.Take(l)
	v.Busy(l)
	nums := []int{1, 1, 1, 9, 9}
	own := Stamp{0, l, nums[:3]}
	fresh(t, v, own, true)
	if !slices.Equal(room, []string{"b", "a", "b", "c", "d", "e"}) || !slices.Equal(nums, []int{1, 1, 1, 9, 9}) {
		t.Errorf("what was handed in became %q, %v", room, nums)
	}
	for i := range room {
		room[i] = "z"
	}
	counts(t, v, 0, 1, 1, 0, 0)
	busy(t, v, "ab")
	if !slices.Equal(s.Names, []string{"b", "a", "b"}) || !slices.Equal(s.Nums, []int{1, 1, 1}) {
		t.Errorf("a stamp became %v", s)
	}
	fresh(t, v, s, true)
	fresh(t, v, own, false)
	v.Clean(1)
	busy(t, v, "")
}

// P13.1 to P13.3: what is kept, and what is told, shares no memory with the texts that were handed in
func TestHandedInTexts(t *testing.T) {
	bytes := []byte("ab")
	l := []string{unsafe.String(&bytes[0], 1), unsafe.String(&bytes[1], 1)}
	v := New()
	v.Bump(l)
	v.Dirty(1, l)
	v.Bump(l[:1])
	v.Dirty(2, l)
	s := v.Take(l)
	told := v.Take(names("ab"))
	bytes[0], bytes[1] = 'x', 'y'
	counts(t, v, 0, 2, 1, 0, 0)
	busy(t, v, "ab")
	if !slices.Equal(s.Names, names("ab")) || v.Num("x") != 0 || v.Busy(names("xy")) {
		t.Errorf("a stamp became %v; x has %d", s, v.Num("x"))
	}
	fresh(t, v, s, true)
	v.Clean(2)
	busy(t, v, "ab")
	v.Clean(1)
	busy(t, v, "")
	for i, name := range v.Take(told.Names).Names {
		if unsafe.StringData(name) == unsafe.StringData(told.Names[i]) {
			t.Errorf("%q is the text that was handed in", name)
		}
	}
}

// A nil one, and those that New did not give
func TestForeign(t *testing.T) {
	v := after(t, "ab ! b 1+ab 2+_")
	before := show(v)
	stamps := []Stamp{
		{}, {Names: []string{}, Nums: []int{}}, {Epoch: 1}, {Epoch: -1}, {0, names("a"), []int{0}}, {0, names("a"), []int{1}}, {1, names("ab"), []int{1, 2}}, {1, names("ab"), []int{0, 0}},
		{0, names("a"), nil}, {0, nil, []int{0}}, {math.MaxInt, names("aa"), []int{math.MinInt}}, v.Take(nil), v.Take(names(universe)),
	}
	for _, f := range []*Vers{nil, {}, new(Vers), copyOf(v), copyOf(New()), {self: v}, {nums: v.nums, dirty: v.dirty}, {self: New(), nums: v.nums, dirty: v.dirty}} {
		for _, l := range [][]string{nil, {}, names("a"), names("_"), names("abba"), names(universe)} {
			f.Bump(l)
			f.All()
			for _, client := range []int{0, 1, 2, 7, -1, math.MaxInt, math.MinInt} {
				f.Dirty(client, l)
				if f.Busy(l) {
					t.Errorf("Busy(%q) = true", l)
				}
				f.Clean(client)
			}
			if s := f.Take(l); s.Epoch != 0 || len(s.Names) != 0 || len(s.Nums) != 0 {
				t.Errorf("Take(%q) = %v", l, s)
			}
			for _, name := range l {
				if n := f.Num(name); n != 0 {
					t.Errorf("Num(%q) = %d", name, n)
				}
			}
			for _, s := range slices.Concat(stamps, []Stamp{f.Take(l)}) {
				fresh(t, f, s, false)
			}
			if c := f.Copy(); c != nil {
				t.Errorf("Copy = %s", show(c))
			}
		}
	}
	counts(t, v, 1, 1, 2, 0, 0)
	busy(t, v, "ab_")
	if show(v) != before {
		t.Errorf("there is %s, want %s", show(v), before)
	}
}

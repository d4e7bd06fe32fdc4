package fill

import (
	"math"
	"slices"
	"strconv"
	"strings"
	"testing"
	"unsafe"

	"pontoon/api"
	"pontoon/cache"
	"pontoon/vers"
)

// These tests speak of a table by one letter, and of a query by the letters of the tables that it reads; these are its key's Norm, too, its Db is d, its Role r, and so an entry's size is 23, and a byte for each letter, and the value's bytes. _ is the query that reads no table.
// What happens to tables is told as in "1+ab 2-b 1- !": 1 writes a and b, 2 commits b, 1 commits no tables, all may have changed.

// times is the greatest ttl, and the greatest time of a Fill.
const times = 1 << 39

// universe is the tables that are looked at wherever all are.
const universe = "abc"

// queries is all queries of the universe's tables.
const queries = "_ a b c ab ac bc abc"

// names is the tables of letters.
func names(letters string) []string {
	var l []string
	for _, letter := range strings.Trim(letters, "_") {
		l = append(l, string(letter))
	}
	return l
}

// key is a query's key.
func key(query string) cache.Key {
	return cache.Key{Db: "d", Role: "r", Norm: query}
}

// keep is one of budgets that can be.
func keep(t *testing.T, all, kept, most, ttl int) *Keep {
	t.Helper()
	f, err := New(all, kept, most, ttl)
	if err != api.OK || f == nil {
		t.Fatalf("New(%d, %d, %d, %d) = %v, %d", all, kept, most, ttl, f, err)
	}
	return f
}

// roomy is one where nothing goes for room; each entry stays for a time of 10.
func roomy(t *testing.T) *Keep {
	t.Helper()
	return keep(t, 10000, 5000, 1000, 10)
}

// full is a roomy one where all queries were answered at 5; each one's value is its letters, twice.
func full(t *testing.T) *Keep {
	t.Helper()
	f := roomy(t)
	for _, query := range strings.Fields(queries) {
		fills(t, f, query, query+query, 5)
	}
	return f
}

// happen lets happen what a text tells.
func happen(t *testing.T, f *Keep, text string) {
	t.Helper()
	for _, what := range strings.Fields(text) {
		if what == "!" {
			f.All()
			continue
		}
		at := strings.LastIndexAny(what, "+-")
		client, err := strconv.Atoi(what[:at])
		if err != nil {
			t.Fatal(err)
		}
		if what[at] == '+' {
			f.Write(client, names(what[at+1:]))
		} else {
			f.Commit(client, names(what[at+1:]))
		}
	}
	sane(t, f)
}

// sane checks that there is a stamp for each entry, and no other one, and what Size tells.
func sane(t *testing.T, f *Keep) {
	t.Helper()
	all := f.answers.Keys()
	if len(all) != len(f.stamps) {
		t.Fatalf("%d entries, %d stamps", len(all), len(f.stamps))
	}
	for _, k := range all {
		if _, ok := f.stamps[k]; !ok {
			t.Fatalf("%v has no stamp", k)
		}
	}
	if n, bytes := f.Size(); n != len(all) || bytes != f.answers.Bytes() {
		t.Fatalf("Size = %d, %d, want %d, %d", n, bytes, len(all), f.answers.Bytes())
	}
}

// show is a whole keep as text: the entries in their order, with their values and stamps, and what stands of the universe's tables.
func show(f *Keep) string {
	var l []string
	for _, k := range f.answers.Keys() {
		// A copy is asked, as to be asked uses an entry; of so early a time no entry is too old.
		value, _ := f.answers.Copy().Get(k, math.MinInt)
		l = append(l, strconv.Quote(cache.Text(k))+"="+strconv.Quote(value)+" of "+stamp(f.stamps[k]))
	}
	l = append(l, stamp(f.tables.Take(names(universe))))
	for _, name := range names(universe) {
		l = append(l, strconv.FormatBool(f.tables.Busy([]string{name})))
	}
	return strings.Join(l, "; ")
}

// stamp is a stamp as text.
func stamp(s vers.Stamp) string {
	text := strconv.Itoa(s.Epoch)
	for _, name := range s.Names {
		text += " " + strconv.Quote(name)
	}
	for _, num := range s.Nums {
		text += " " + strconv.Itoa(num)
	}
	return text
}

// unchanged checks that a keep stands as it did.
func unchanged(t *testing.T, f *Keep, before string) {
	t.Helper()
	if got := show(f); got != before {
		t.Errorf("there is %s, want %s", got, before)
	}
	sane(t, f)
}

// fills checks a Fill of a query that begins now, and whose tables nobody is changing.
func fills(t *testing.T, f *Keep, query, value string, now int) {
	t.Helper()
	takes(t, f, query, value, f.Start(names(query)), now)
}

// takes checks a Fill that says yes.
func takes(t *testing.T, f *Keep, query, value string, s vers.Stamp, now int) {
	t.Helper()
	if ok, err := f.Fill(key(query), value, s, now); !ok || err != api.OK {
		t.Errorf("Fill(%q, %q, %v, %d) = %t, %d", query, value, s, now, ok, err)
	}
	sane(t, f)
}

// refuses checks a Fill that says no, and changes nothing.
func refuses(t *testing.T, f *Keep, k cache.Key, value string, s vers.Stamp, now int, want api.Errno) {
	t.Helper()
	before := show(f)
	if ok, err := f.Fill(k, value, s, now); ok || err != want {
		t.Errorf("Fill(%v, %q, %v, %d) = %t, %d, want %d", k, value, s, now, ok, err, want)
	}
	unchanged(t, f, before)
}

// tells checks a Look that says yes.
func tells(t *testing.T, f *Keep, query string, now int, value string) {
	t.Helper()
	if got, ok := f.Look(key(query), now); got != value || !ok {
		t.Errorf("Look(%q, %d) = %q, %t, want %q", query, now, got, ok, value)
	}
	sane(t, f)
}

// lacks checks a Look that says no.
func lacks(t *testing.T, f *Keep, query string, now int) {
	t.Helper()
	if got, ok := f.Look(key(query), now); got != "" || ok {
		t.Errorf("Look(%q, %d) = %q, %t", query, now, got, ok)
	}
	sane(t, f)
}

// size checks a Size.
func size(t *testing.T, f *Keep, n, bytes int) {
	t.Helper()
	if gotN, gotBytes := f.Size(); gotN != n || gotBytes != bytes {
		t.Errorf("Size = %d, %d, want %d, %d", gotN, gotBytes, n, bytes)
	}
	sane(t, f)
}

// copyOf is a copy of a struct, which New did not give.
func copyOf[T any](p *T) *T {
	c := *p
	return &c
}

// P15.1 to P15.4: the example of the chapter
func TestExample(t *testing.T) {
	f := roomy(t)
	s := f.Start([]string{"t"})
	takes(t, f, "q", "v", s, 1)
	tells(t, f, "q", 1, "v")
	f.Write(1, []string{"t"})
	lacks(t, f, "q", 1)
	f.Commit(1, []string{"t"})
	lacks(t, f, "q", 1)
	takes(t, f, "q", "w", f.Start([]string{"t"}), 1)
	tells(t, f, "q", 1, "w")
}

// P15.1: budgets, and the time for which an entry stays
func TestNew(t *testing.T) {
	for _, c := range []struct{ all, kept, most, ttl int }{
		{1, 0, 1, 1}, {1, 1, 1, times}, {100, 0, 100, 10}, {100, 100, 1, 10}, {api.MaxBytes, api.MaxBytes, api.MaxBytes, times}, {api.MaxBytes, 0, 1, 1},
	} {
		f := keep(t, c.all, c.kept, c.most, c.ttl)
		size(t, f, 0, 0)
		lacks(t, f, "a", 1)
		if n, m := f.Tick(times), f.Flush(); n != 0 || m != 0 {
			t.Errorf("an empty one: Tick = %d, Flush = %d", n, m)
		}
		if got := f.Start(names(universe)); stamp(got) != `0 "a" "b" "c" 0 0 0` {
			t.Errorf("Start = %v", got)
		}
	}
	// Two of them have nothing in common.
	f, other := roomy(t), roomy(t)
	fills(t, f, "a", "v", 1)
	size(t, other, 0, 0)
	fills(t, other, "a", "w", 1)
	happen(t, other, "1+a !")
	tells(t, f, "a", 1, "v")
	lacks(t, other, "a", 1)
}

// P15.1: cache.New's errors
func TestNewWrong(t *testing.T) {
	for _, c := range []struct{ all, kept, most, ttl int }{
		{0, 0, 0, 1}, {0, 0, 1, 1}, {-1, 0, 1, 1}, {api.MaxBytes + 1, 0, 1, 1}, {math.MaxInt, 0, 1, 1}, {math.MinInt, 0, 1, 1},
		{10, -1, 1, 1}, {10, 11, 1, 1}, {10, math.MaxInt, 1, 1}, {10, math.MinInt, 1, 1},
		{10, 5, 0, 1}, {10, 5, -1, 1}, {10, 5, 11, 1}, {10, 5, math.MaxInt, 1}, {10, 5, math.MinInt, 1},
		{10, 5, 5, 0}, {10, 5, 5, -1}, {10, 5, 5, times + 1}, {10, 5, 5, math.MaxInt}, {10, 5, 5, math.MinInt}, {0, -1, 0, 0},
	} {
		if f, err := New(c.all, c.kept, c.most, c.ttl); f != nil || err != api.ErrArg {
			t.Errorf("New(%d, %d, %d, %d) = %v, %d", c.all, c.kept, c.most, c.ttl, f, err)
		}
	}
	// The budgets are the cache's, each for itself: an entry of 25 bytes.
	for _, c := range []struct {
		all, kept, most int
		err             api.Errno
	}{
		{25, 0, 25, api.OK}, {25, 25, 25, api.OK}, {25, 25, 24, api.ErrBig}, {100, 100, 24, api.ErrBig}, {24, 24, 24, api.ErrBig}, {100, 0, 25, api.OK},
	} {
		f := keep(t, c.all, c.kept, c.most, 10)
		if ok, err := f.Fill(key("a"), "v", f.Start(nil), 1); ok != (err == api.OK) || err != c.err {
			t.Errorf("of %v: Fill = %t, %d", c, ok, err)
		}
		sane(t, f)
	}
}

// P15.1, P15.4: a stamp has the names as they are handed in, each with its number
func TestStart(t *testing.T) {
	for _, c := range []struct{ text, letters, want string }{
		{"", "", "0"}, {"", "a", `0 "a" 0`}, {"", "cab", `0 "c" "a" "b" 0 0 0`}, {"", "aa", `0 "a" "a" 0 0`},
		{"1+a", "ab", `0 "a" "b" 1 0`}, {"1-a", "ab", `0 "a" "b" 1 0`}, {"1+a 1-a", "ab", `0 "a" "b" 2 0`}, {"1+ab 2+b 1-b 2-", "abc", `0 "a" "b" "c" 1 3 0`},
		{"1+aa", "a", `0 "a" 1`}, {"1-aba", "bab", `0 "b" "a" "b" 1 1 1`}, {"1+ 1-", "abc", `0 "a" "b" "c" 0 0 0`},
		{"!", "", "1"}, {"! 1+a !", "ba", `2 "b" "a" 0 1`}, {"! ! !", "a", `3 "a" 0`},
	} {
		f := full(t)
		happen(t, f, c.text)
		before := show(f)
		if got := f.Start(names(c.letters)); stamp(got) != c.want {
			t.Errorf("%q: Start(%q) = %v, want %s", c.text, c.letters, got, c.want)
		}
		unchanged(t, f, before)
	}
	f := roomy(t)
	if got := f.Start([]string{"", "\x00", "a", ""}); stamp(got) != `0 "" "\x00" "a" "" 0 0 0 0` {
		t.Errorf("Start = %v", got)
	}
}

// P15.2, P15.4: which answers are kept, by what happens ahead of the query, and while it is on its way
func TestFill(t *testing.T) {
	for _, c := range []struct {
		ahead, query, during string
		want                 bool
	}{
		{"", "a", "", true}, {"", "abc", "", true}, {"", "_", "", true}, {"", "aba", "", true},
		// Who writes while it is on its way
		{"", "a", "1+a", false}, {"", "a", "1+b", true}, {"", "ab", "1+b", false}, {"", "ba", "1+b", false}, {"", "abc", "1+c", false}, {"", "_", "1+abc", true}, {"", "aba", "1+b", false},
		{"", "a", "1-a", false}, {"", "a", "1-b", true}, {"", "ab", "1-b", false}, {"", "_", "1-abc", true},
		{"", "a", "1+a 1-a", false}, {"", "a", "1+a 1-", false}, {"", "a", "1+b 1-b", true}, {"", "a", "1+ 1-", true},
		{"", "a", "!", false}, {"", "_", "!", false}, {"", "ab", "! !", false},
		// Who has been writing since before it was sent
		{"1+a", "a", "", false}, {"1+a", "ab", "", false}, {"1+a", "ba", "", false}, {"1+a", "b", "", true}, {"1+a", "_", "", true}, {"1+abc", "_", "", true}, {"1+a 2+a 1-a", "a", "", false}, {"1+a 2+a 1-a", "b", "", true},
		{"1+a", "a", "1-a", false}, {"1+a", "a", "2-", false}, {"1+a", "b", "1-a", true}, {"1+a 2+b", "c", "1-a 2-b", true}, {"1+ab", "c", "", true},
		// A client that is clean again, and whose tables are not changed by that
		{"1+a", "a", "1-", true}, {"1+ab", "ab", "1-", true}, {"1+ab 2+b", "ab", "1-", false}, {"1+ab 2+b", "a", "1-", true}, {"1+ab 2+b", "ab", "1- 2-", true}, {"1+a", "a", "1-b", true},
		// What has ended before it was sent
		{"1+a 1-a", "a", "", true}, {"1-a", "a", "", true}, {"!", "a", "", true}, {"1+abc ! 1-b", "abc", "", true}, {"1+a 2+a 1-a 2-a", "a", "", true}, {"1+a 1-b", "a", "", true}, {"1+a 1+b 1-", "ab", "", true},
	} {
		for _, there := range []bool{false, true} {
			f := roomy(t)
			if there {
				fills(t, f, c.query, "old", 1)
			}
			happen(t, f, c.ahead)
			s := f.Start(names(c.query))
			happen(t, f, c.during)
			if !c.want {
				refuses(t, f, key(c.query), "v", s, 2, api.OK)
				continue
			}
			takes(t, f, c.query, "v", s, 2)
			size(t, f, 1, 23+len(c.query)+1)
			if got := f.stamps[key(c.query)]; stamp(got) != stamp(s) {
				t.Errorf("the stamp is %v, want %v", got, s)
			}
			tells(t, f, c.query, 2, "v")
		}
	}
}

// P15.2: stamps that are made up
func TestFillStamps(t *testing.T) {
	for _, c := range []struct {
		epoch   int
		letters string
		nums    []int
		want    bool
	}{
		{2, "", nil, true}, {2, "", []int{}, true}, {0, "", nil, false}, {1, "", nil, false}, {3, "", nil, false}, {-2, "", nil, false}, {1<<32 + 2, "", nil, false}, {math.MaxInt, "", nil, false}, {math.MinInt, "", nil, false},
		{2, "a", []int{1}, true}, {2, "a", []int{0}, false}, {2, "a", []int{2}, false}, {2, "a", []int{-1}, false}, {2, "a", []int{1<<32 + 1}, false}, {1, "a", []int{1}, false}, {0, "a", []int{1}, false},
		{2, "b", []int{0}, false}, {2, "b", []int{1}, false}, {2, "ab", []int{1, 1}, false}, {2, "ac", []int{1, 0}, true}, {2, "ac", []int{1, 1}, false}, {2, "ca", []int{1, 0}, false}, {2, "ca", []int{0, 1}, true}, {2, "yz", []int{0, 0}, true},
		{2, "a", nil, false}, {2, "c", nil, false}, {2, "", []int{0}, false}, {2, "a", []int{1, 1}, false}, {2, "aa", []int{1}, false}, {2, "aa", []int{1, 1}, true}, {2, "aa", []int{1, 0}, false},
	} {
		f := roomy(t)
		happen(t, f, "! 1-a 2+b !")
		s := vers.Stamp{Epoch: c.epoch, Names: names(c.letters), Nums: c.nums}
		if !c.want {
			refuses(t, f, key("q"), "v", s, 1, api.OK)
			size(t, f, 0, 0)
			continue
		}
		takes(t, f, "q", "v", s, 1)
		tells(t, f, "q", 1, "v")
	}
}

// wrongKeys is keys that no cache takes.
func wrongKeys() []cache.Key {
	return []cache.Key{
		{Db: "\x00"}, {Role: "a\x00"}, {Norm: "\x00a"}, {Norm: "a", Format: 2}, {Norm: "a", Format: -1}, {Format: 1 << 16}, {Format: 1 << 32}, {Format: math.MaxInt}, {Format: math.MinInt},
	}
}

// P15.2: cache.Put's errors, which come behind what is said of the stamp
func TestFillWrong(t *testing.T) {
	f := keep(t, 1000, 500, 30, 10)
	fills(t, f, "a", "v", 1)
	happen(t, f, "1+b")
	fresh, stale, busy := f.Start(names("a")), vers.Stamp{Epoch: 1}, f.Start(names("ab"))
	long := strings.Repeat("v", 7)
	for _, k := range append(wrongKeys(), key("a\x00")) {
		refuses(t, f, k, "v", fresh, 1, api.ErrArg)
		refuses(t, f, k, long, fresh, -1, api.ErrArg)
		refuses(t, f, k, strings.Repeat("v", 100), fresh, 1, api.ErrArg)
		refuses(t, f, k, "v", stale, 1, api.OK)
		refuses(t, f, k, "v", busy, 1, api.OK)
		if got, ok := f.Look(k, 1); got != "" || ok {
			t.Errorf("Look(%v) = %q, %t", k, got, ok)
		}
	}
	for _, now := range []int{-1, times + 1, math.MaxInt, math.MinInt} {
		refuses(t, f, key("a"), "v", fresh, now, api.ErrArg)
		refuses(t, f, key("a"), long, fresh, now, api.ErrArg)
		refuses(t, f, key("a"), "v", stale, now, api.OK)
		refuses(t, f, key("a"), "v", busy, now, api.OK)
	}
	refuses(t, f, key("a"), long, fresh, 1, api.ErrBig)
	refuses(t, f, key("new"), strings.Repeat("v", 5), fresh, 1, api.ErrBig)
	refuses(t, f, key("a"), long, stale, 1, api.OK)
	refuses(t, f, key("a"), long, busy, 1, api.OK)
	tells(t, f, "a", 10, "v")
	// The edges are right.
	takes(t, f, "a", long[1:], fresh, 0)
	tells(t, f, "a", 9, long[1:])
	takes(t, f, "b", "", fresh, times)
	tells(t, f, "b", times+9, "")
}

// P15.2: where an error is told, or no, an entry that is there stays, with its own stamp
func TestFillLeaves(t *testing.T) {
	f := keep(t, 1000, 500, 30, 10)
	takes(t, f, "q", "v", f.Start(names("a")), 1)
	late := f.Start(names("b"))
	refuses(t, f, key("q"), strings.Repeat("v", 7), late, 5, api.ErrBig)
	refuses(t, f, key("q"), "w", late, -5, api.ErrArg)
	happen(t, f, "1+b")
	refuses(t, f, key("q"), "w", late, 5, api.OK)
	refuses(t, f, key("q"), "w", f.Start(names("b")), 5, api.OK)
	tells(t, f, "q", 10, "v")
	happen(t, f, "1-b 1+a")
	// Neither does it become honest by that.
	refuses(t, f, key("q"), "w", late, 5, api.OK)
	refuses(t, f, key("q"), strings.Repeat("v", 7), f.Start(names("b")), 5, api.ErrBig)
	size(t, f, 1, 25)
	lacks(t, f, "q", 5)
	size(t, f, 0, 0)
}

// P15.2: who fills a key that is there gives it the value, the stamp and the time of now
func TestFillAgain(t *testing.T) {
	f := roomy(t)
	for _, c := range []struct{ ahead, behind, told string }{
		{"", "", "new"}, {"", "1+a", "new"}, {"1+a", "", "new"}, {"1+a 1-a", "", "new"}, {"!", "", "new"}, {"1+a", "1-a !", ""},
		{"", "1+b", ""}, {"", "1-b", ""}, {"", "!", ""}, {"1+a", "1+b", ""}, {"1-b", "1-a", "new"},
	} {
		f.Flush()
		happen(t, f, "1-")
		takes(t, f, "q", "older", f.Start(names("a")), 1)
		happen(t, f, c.ahead)
		takes(t, f, "q", "new", f.Start(names("b")), 5)
		size(t, f, 1, 27)
		happen(t, f, c.behind)
		if c.told == "" {
			lacks(t, f, "q", 12)
		} else {
			tells(t, f, "q", 14, c.told)
		}
		lacks(t, f, "q", 15)
	}
}

// P15.2, P15.3, P15.5: entries go for room, as a cache lets them go; those that are told go last, those that are stale take room still
func TestRoom(t *testing.T) {
	for _, c := range []struct{ told, text, put, left string }{
		{"", "", "d", "dcb"}, {"", "", "de", "edc"}, {"a", "", "d", "adc"}, {"ab", "", "d", "bad"}, {"ba", "", "d", "abd"}, {"a", "", "deg", "age"},
		// One that is stale is not used, but goes as it is looked up.
		{"", "1+a", "d", "dcb"}, {"", "1+b", "d", "dcb"}, {"b", "1+b", "d", "bdc"}, {"b", "1+b", "dbe", "ebd"}, {"ab", "1+a", "da", "bad"},
	} {
		f := keep(t, 75, 50, 75, 10)
		for _, query := range names(universe) {
			fills(t, f, query, "v", 1)
		}
		for _, query := range names(c.told) {
			tells(t, f, query, 1, "v")
		}
		happen(t, f, c.text)
		for i, query := range names(c.put) {
			if query < "d" {
				lacks(t, f, query, 1)
			}
			takes(t, f, query, strconv.Itoa(i), f.Start(nil), 1)
		}
		got := ""
		for _, k := range f.answers.Keys() {
			got += k.Norm
		}
		if got != c.left {
			t.Errorf("%v: there is %q", c, got)
		}
		size(t, f, 3, 75)
	}
	// Many go at once.
	f := keep(t, 75, 50, 75, 10)
	for _, query := range names(universe) {
		fills(t, f, query, "v", 1)
	}
	fills(t, f, "d", strings.Repeat("v", 51), 1)
	size(t, f, 1, 75)
	tells(t, f, "d", 1, strings.Repeat("v", 51))
	for _, query := range names(universe) {
		lacks(t, f, query, 1)
	}
}

// P15.3, P15.4, P15.6: what is told, and what may be filled, when tables have changed
func TestLook(t *testing.T) {
	for _, c := range []struct{ text, told, free string }{
		{"", queries, queries}, {"1+", queries, queries}, {"1-", queries, queries}, {"1+z 2-z", queries, queries},
		{"1+a", "_ b c bc", "_ b c bc"}, {"1+b", "_ a c ac", "_ a c ac"}, {"1+ab", "_ c", "_ c"}, {"1+abc", "_", "_"}, {"1+aa", "_ b c bc", "_ b c bc"}, {"1+a 1+b", "_ c", "_ c"}, {"1+a 2+b", "_ c", "_ c"},
		{"1-a", "_ b c bc", queries}, {"1-ab", "_ c", queries}, {"1-abc", "_", queries}, {"1-cc", "_ a b ab", queries},
		{"1+a 1-a", "_ b c bc", queries}, {"1+a 1-", "_ b c bc", queries}, {"1+a 1-b", "_ c", queries}, {"1+ab 1-a", "_ c", queries}, {"1+a 1+b 1-b", "_ c", queries},
		{"1+a 2-a", "_ b c bc", "_ b c bc"}, {"1+a 2-b", "_ c", "_ b c bc"}, {"1+a 2+a 1-a", "_ b c bc", "_ b c bc"}, {"1+a 2+a 2-a", "_ b c bc", "_ b c bc"}, {"1+a 2+a 1-a 2-a", "_ b c bc", queries}, {"1+ab 2+bc 1-ab", "_", "_ a"}, {"1+ab 2+bc 1-ab 2-bc", "_", queries},
		{"1+a 1+a 1-a", "_ b c bc", queries}, {"1+a 1-a 1-a", "_ b c bc", queries}, {"1+a 1-a 1+a", "_ b c bc", "_ b c bc"},
		{"!", "", queries}, {"! !", "", queries}, {"1+a !", "", "_ b c bc"}, {"! 1+a 1-a", "", queries},
		{"0+a", "_ b c bc", "_ b c bc"}, {"-1+a 1-", "_ b c bc", "_ b c bc"}, {"-1+a -1-", "_ b c bc", queries}, {"4294967297+a 1-", "_ b c bc", "_ b c bc"}, {"9223372036854775807+a -1-", "_ b c bc", "_ b c bc"}, {"-9223372036854775808+a 0-", "_ b c bc", "_ b c bc"}, {"-9223372036854775808+a -9223372036854775808-", "_ b c bc", queries},
	} {
		f := full(t)
		happen(t, f, c.text)
		// What is there stays till it is asked for.
		size(t, f, 8, 8*23+3*13)
		for range 2 {
			bytes := 0
			told := strings.Fields(c.told)
			for _, query := range strings.Fields(queries) {
				if slices.Contains(told, query) {
					tells(t, f, query, 5, query+query)
					bytes += 23 + 3*len(query)
				} else {
					lacks(t, f, query, 5)
				}
			}
			size(t, f, len(told), bytes)
		}
		for _, query := range strings.Fields(queries) {
			if slices.Contains(strings.Fields(c.free), query) {
				fills(t, f, query, "new", 6)
				tells(t, f, query, 6, "new")
			} else {
				refuses(t, f, key(query), "new", f.Start(names(query)), 6, api.OK)
				lacks(t, f, query, 6)
			}
		}
	}
}

// P15.3: keys are told apart, and those that are not there are not told
func TestKeys(t *testing.T) {
	all := []cache.Key{{}, {Db: "q"}, {Role: "q"}, {Norm: "q"}, {Format: 1}, {Norm: "q", Format: 1}, {Db: "q", Role: "q"}, {Db: "q", Norm: "q"}, {Role: "q", Norm: "q"}, {Db: "qr", Role: "s"}, {Db: "q", Role: "rs"}, {Norm: "Q"}, {Norm: " q"}, {Norm: "\xff"}, {Norm: strings.Repeat("q", 900)}}
	f := roomy(t)
	for i, k := range all {
		if got, ok := f.Look(k, 1); got != "" || ok {
			t.Errorf("Look(%v) = %q, %t", k, got, ok)
		}
		if ok, err := f.Fill(k, strconv.Itoa(i), f.Start([]string{strconv.Itoa(i)}), 1); !ok || err != api.OK {
			t.Errorf("Fill(%v) = %t, %d", k, ok, err)
		}
	}
	for i, k := range all {
		if got, ok := f.Look(k, 1); got != strconv.Itoa(i) || !ok {
			t.Errorf("Look(%v) = %q, %t, want %d", k, got, ok, i)
		}
		f.Write(1, []string{strconv.Itoa(i)})
		if got, ok := f.Look(k, 1); got != "" || ok {
			t.Errorf("Look(%v) = %q, %t", k, got, ok)
		}
		if n, _ := f.Size(); n != len(all)-i-1 {
			t.Errorf("%d are there, want %d", n, len(all)-i-1)
		}
		sane(t, f)
	}
	f = full(t)
	before := show(f)
	for _, k := range append(wrongKeys(), all...) {
		if got, ok := f.Look(k, 5); got != "" || ok {
			t.Errorf("Look(%v) = %q, %t", k, got, ok)
		}
	}
	unchanged(t, f, before)
}

// P15.3: times
func TestLookTimes(t *testing.T) {
	for _, c := range []struct {
		ttl, at, now int
		want         bool
	}{
		{3, 5, 5, true}, {3, 5, 7, true}, {3, 5, 8, false}, {3, 5, 9, false}, {3, 5, 4, true}, {3, 5, 0, true}, {3, 5, -1, true}, {3, 5, math.MinInt, true}, {3, 5, math.MaxInt, false},
		{1, 0, 0, true}, {1, 0, 1, false}, {times, times, 2*times - 1, true}, {times, times, 2 * times, false}, {times, 0, times - 1, true}, {times, 0, times, false},
	} {
		f := keep(t, 100, 50, 50, c.ttl)
		fills(t, f, "a", "v", c.at)
		fills(t, f, "b", "", c.at)
		if c.want {
			tells(t, f, "a", c.now, "v")
			tells(t, f, "b", c.now, "")
			size(t, f, 2, 49)
		} else {
			lacks(t, f, "a", c.now)
			size(t, f, 1, 24)
			lacks(t, f, "b", c.now)
			size(t, f, 0, 0)
			// It has gone, and is not there for one who comes with an earlier time.
			lacks(t, f, "a", c.at)
			fills(t, f, "a", "w", c.at)
			tells(t, f, "a", c.at, "w")
		}
	}
	// One that is stale goes at any time.
	for _, now := range []int{5, 14, 15, 16, -1, math.MaxInt, math.MinInt} {
		f := full(t)
		happen(t, f, "1+a")
		lacks(t, f, "a", now)
		size(t, f, 7, 7*23+3*12)
	}
}

// P15.3: of one that is fresh, but whose tables somebody is changing, nothing is told, and it stays as it is
func TestLookBusy(t *testing.T) {
	f := full(t)
	// Who writes bumps, too, so that no entry is fresh and busy unless the tables are told so apart from the keep.
	f.tables.Dirty(1, []string{"a"})
	before := show(f)
	for _, query := range []string{"abc", "a", "ac", "ab"} {
		for _, now := range []int{5, 14, 15, 16, math.MaxInt, math.MinInt} {
			lacks(t, f, query, now)
		}
	}
	unchanged(t, f, before)
	tells(t, f, "bc", 5, "bcbc")
	tells(t, f, "_", 5, "__")
	f.tables.Clean(1)
	tells(t, f, "abc", 14, "abcabc")
	lacks(t, f, "a", 15)
	size(t, f, 7, 7*23+3*12)
	// One that is neither fresh nor free goes.
	f.tables.Dirty(1, []string{"b"})
	happen(t, f, "2-b")
	lacks(t, f, "ab", 5)
	size(t, f, 6, 6*23+3*10)
	lacks(t, f, "c", math.MaxInt)
	size(t, f, 5, 5*23+3*9)
}

// P15.5: all go, also those that are stale, or too old
func TestFlush(t *testing.T) {
	for _, c := range []struct {
		text string
		look string
		want int
	}{
		{"", "", 8}, {"1+a", "", 8}, {"!", "", 8}, {"1+a", "a ab", 6}, {"!", queries, 0}, {"1-a", queries, 4}, {"", queries, 8},
	} {
		f := full(t)
		happen(t, f, c.text)
		for _, query := range strings.Fields(c.look) {
			f.Look(key(query), 5)
		}
		s := f.Start(names("b"))
		tables := stamp(f.Start(names(universe)))
		if got := f.Flush(); got != c.want {
			t.Errorf("%v: Flush = %d", c, got)
		}
		size(t, f, 0, 0)
		for _, query := range strings.Fields(queries) {
			lacks(t, f, query, 5)
		}
		if got := f.Flush(); got != 0 {
			t.Errorf("%v: Flush of an empty one = %d", c, got)
		}
		// The tables are as they were.
		if got := stamp(f.Start(names(universe))); got != tables {
			t.Errorf("%v: the tables stand at %s, want %s", c, got, tables)
		}
		takes(t, f, "b", "new", s, 5)
		tells(t, f, "b", 5, "new")
		if strings.Contains(c.text, "+") {
			refuses(t, f, key("a"), "new", f.Start(names("a")), 5, api.OK)
		}
	}
}

// P15.5: those whose time has come go, also those that are stale
func TestTick(t *testing.T) {
	for _, c := range []struct {
		now  int
		left string
	}{
		{math.MinInt, "abcd"}, {-1, "abcd"}, {0, "abcd"}, {13, "abcd"}, {14, "bcd"}, {15, "bcd"}, {16, "d"}, {17, "d"}, {18, ""}, {2 * times, ""}, {math.MaxInt, ""},
	} {
		for _, happened := range []struct{ text, told string }{{"", "abcd"}, {"1+ac", "bd"}, {"1-b", "acd"}, {"!", ""}} {
			f := keep(t, 1000, 500, 100, 10)
			for i, query := range names("abcd") {
				fills(t, f, query, "v", []int{4, 6, 6, 8}[i])
			}
			happen(t, f, happened.text)
			if got := f.Tick(c.now); got != 4-len(c.left) {
				t.Errorf("%q: Tick(%d) = %d, want %d", happened.text, c.now, got, 4-len(c.left))
			}
			size(t, f, len(c.left), 25*len(c.left))
			if got := f.Tick(c.now); got != 0 {
				t.Errorf("%q: Tick(%d) again = %d", happened.text, c.now, got)
			}
			for _, query := range names("abcd") {
				if strings.Contains(c.left, query) && strings.Contains(happened.told, query) {
					tells(t, f, query, 7, "v")
				} else {
					lacks(t, f, query, 7)
				}
			}
		}
	}
	// What was told, or filled again, has the time of its last Fill.
	f := keep(t, 1000, 500, 100, 10)
	fills(t, f, "a", "v", 1)
	fills(t, f, "b", "v", 1)
	tells(t, f, "b", 9, "v")
	fills(t, f, "a", "w", 5)
	if got := f.Tick(11); got != 1 {
		t.Errorf("Tick = %d", got)
	}
	tells(t, f, "a", 14, "w")
	lacks(t, f, "b", 5)
}

// P15.5: how many there are, and their bytes
func TestSize(t *testing.T) {
	f := roomy(t)
	size(t, f, 0, 0)
	fills(t, f, "a", "", 1)
	size(t, f, 1, 24)
	fills(t, f, "ab", "value", 1)
	size(t, f, 2, 24+30)
	fills(t, f, "a", "\x00\xff", 1)
	size(t, f, 2, 26+30)
	tells(t, f, "a", 1, "\x00\xff")
	happen(t, f, "1+b")
	size(t, f, 2, 26+30)
	lacks(t, f, "ab", 1)
	size(t, f, 1, 26)
	happen(t, f, "!")
	size(t, f, 1, 26)
	f.Tick(10)
	size(t, f, 1, 26)
	f.Tick(11)
	size(t, f, 0, 0)
}

// P15.5: a copy stands there, and goes its own way
func TestCopy(t *testing.T) {
	for _, change := range []func(t *testing.T, f *Keep){
		func(t *testing.T, f *Keep) { fills(t, f, "c", "new", 7) },
		func(t *testing.T, f *Keep) { takes(t, f, "c", "new", f.Start(nil), 7) },
		func(t *testing.T, f *Keep) { fills(t, f, "new", "new", 7) },
		func(t *testing.T, f *Keep) { tells(t, f, "c", 7, "cc") },
		func(t *testing.T, f *Keep) { lacks(t, f, "b", 7) },
		func(t *testing.T, f *Keep) { lacks(t, f, "c", 15) },
		func(t *testing.T, f *Keep) { happen(t, f, "2+c") },
		func(t *testing.T, f *Keep) { happen(t, f, "1-") },
		func(t *testing.T, f *Keep) { happen(t, f, "1-a") },
		func(t *testing.T, f *Keep) { happen(t, f, "!") },
		func(t *testing.T, f *Keep) { f.Flush() },
		func(t *testing.T, f *Keep) { f.Tick(15) },
	} {
		f := full(t)
		happen(t, f, "! 1+a 2-b")
		fills(t, f, "c", "cc", 5)
		fills(t, f, "_", "__", 5)
		before := show(f)
		c := f.Copy()
		if c == f || c == nil {
			t.Fatal("a copy is the thing itself, or none")
		}
		unchanged(t, c, before)
		change(t, c)
		unchanged(t, f, before)
		after := show(c)
		if after == before {
			t.Error("nothing was changed")
		}
		d := c.Copy().Copy()
		change(t, f)
		unchanged(t, f, after)
		unchanged(t, c, after)
		f.Flush()
		happen(t, f, "! 1+abc")
		unchanged(t, c, after)
		unchanged(t, d, after)
	}
	// Budgets and times are those of the first one.
	f := keep(t, 50, 25, 30, 10)
	c := f.Copy().Copy()
	size(t, c, 0, 0)
	refuses(t, c, key("a"), strings.Repeat("v", 7), c.Start(nil), 1, api.ErrBig)
	fills(t, c, "a", "v", 1)
	fills(t, c, "b", "v", 1)
	fills(t, c, "c", "v", 1)
	lacks(t, c, "a", 1)
	tells(t, c, "b", 10, "v")
	lacks(t, c, "b", 11)
	size(t, c, 1, 25)
	size(t, f, 0, 0)
}

// P15.5: who is changing what, a copy knows as well
func TestCopyBusy(t *testing.T) {
	f := full(t)
	old := f.Start(names("b"))
	happen(t, f, "1+a 2+b")
	c := f.Copy()
	happen(t, f, "1-a")
	fills(t, f, "a", "v", 5)
	refuses(t, c, key("a"), "v", c.Start(names("a")), 5, api.OK)
	refuses(t, c, key("b"), "v", old, 5, api.OK)
	happen(t, c, "2-")
	fills(t, c, "b", "v", 5)
	refuses(t, f, key("b"), "v", f.Start(names("b")), 5, api.OK)
	lacks(t, c, "a", 5)
	tells(t, f, "a", 5, "v")
}

// P15.1, P15.2: what is told goes its own way, and so does what was handed in, spare room too
func TestToldIsNew(t *testing.T) {
	f := roomy(t)
	happen(t, f, "1-ab")
	l := append(make([]string, 0, 5), "a", "b")
	first, second := f.Start(l), f.Start(l)
	want := stamp(second)
	spoil := func(s vers.Stamp) {
		for i := range s.Names[:cap(s.Names)] {
			s.Names[:cap(s.Names)][i] = "z"
		}
		for i := range s.Nums[:cap(s.Nums)] {
			s.Nums[:cap(s.Nums)][i] = 77
		}
	}
	for i := range l[:cap(l)] {
		l[:cap(l)][i] = "y"
	}
	takes(t, f, "q", "v", second, 1)
	if stamp(second) != want {
		t.Errorf("what was handed in became %v, was %s", second, want)
	}
	before := show(f)
	c := f.Copy()
	spoil(first)
	if stamp(second) != want {
		t.Errorf("what was told became %v, was %s", second, want)
	}
	spoil(second)
	unchanged(t, f, before)
	unchanged(t, c, before)
	tells(t, f, "q", 1, "v")
	happen(t, c, "1+b")
	lacks(t, c, "q", 1)
}

// P15.2, P15.4: what is kept shares no memory with texts that were handed in
func TestHandedIn(t *testing.T) {
	bytes := []byte("drqvab")
	part := func(i int) string { return unsafe.String(&bytes[i], 1) }
	f := roomy(t)
	reads := []string{part(4), part(5)}
	k := cache.Key{Db: part(0), Role: part(1), Norm: part(2)}
	if ok, err := f.Fill(k, part(3), f.Start(reads), 1); !ok || err != api.OK {
		t.Fatal(ok, err)
	}
	if ok, err := f.Fill(key("w"), part(3), vers.Stamp{Names: reads, Nums: []int{0, 0}}, 1); !ok || err != api.OK {
		t.Fatal(ok, err)
	}
	f.Write(1, []string{part(0)})
	f.Commit(2, []string{part(1)})
	s := f.Start([]string{part(4)})
	c := f.Copy()
	copy(bytes, "xxxxxx")
	for _, f := range []*Keep{f, c} {
		sane(t, f)
		lacks(t, f, "x", 1)
		tells(t, f, "q", 1, "v")
		tells(t, f, "w", 1, "v")
		if stamp(s) != `0 "a" 0` {
			t.Errorf("what was told became %v", s)
		}
		if got := f.Start([]string{"d", "r", "x"}); stamp(got) != `0 "d" "r" "x" 1 1 0` {
			t.Errorf("Start = %v", got)
		}
		refuses(t, f, key("d"), "v", f.Start([]string{"d"}), 1, api.OK)
		fills(t, f, "x", "v", 1)
		happen(t, f, "1+b")
		lacks(t, f, "q", 1)
		lacks(t, f, "w", 1)
		size(t, f, 1, 25)
	}
}

// A nil one, and those that New did not give
func TestForeign(t *testing.T) {
	f := full(t)
	happen(t, f, "1+a")
	before := show(f)
	for _, other := range []*Keep{nil, {}, new(Keep), copyOf(f), copyOf(roomy(t)), {self: f}, {answers: f.answers, tables: f.tables, stamps: f.stamps}, {self: roomy(t), answers: f.answers, tables: f.tables, stamps: f.stamps}} {
		other.Write(1, []string{"b"})
		other.Commit(1, []string{"c"})
		other.All()
		for _, k := range append(wrongKeys(), key("b"), key("a"), key("")) {
			for _, s := range []vers.Stamp{{}, f.Start(names("b")), f.Start(names("a")), {Epoch: 7}} {
				for _, now := range []int{5, -1, math.MaxInt} {
					if ok, err := other.Fill(k, "v", s, now); ok || err != api.ErrNil {
						t.Errorf("Fill(%v) = %t, %d", k, ok, err)
					}
				}
			}
			if got, ok := other.Look(k, 5); got != "" || ok {
				t.Errorf("Look(%v) = %q, %t", k, got, ok)
			}
		}
		for _, l := range [][]string{nil, {"a"}, {"b", "b"}} {
			if s := other.Start(l); s.Epoch != 0 || len(s.Names) != 0 || len(s.Nums) != 0 {
				t.Errorf("Start = %v", s)
			}
		}
		if n := other.Tick(times); n != 0 {
			t.Errorf("Tick = %d", n)
		}
		if n := other.Flush(); n != 0 {
			t.Errorf("Flush = %d", n)
		}
		if n, bytes := other.Size(); n != 0 || bytes != 0 {
			t.Errorf("Size = %d, %d", n, bytes)
		}
		if c := other.Copy(); c != nil {
			t.Errorf("Copy = %v", c)
		}
	}
	unchanged(t, f, before)
	tells(t, f, "b", 5, "bb")
}

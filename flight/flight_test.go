package flight

import (
	"maps"
	"math"
	"slices"
	"strconv"
	"strings"
	"testing"
	"unsafe"

	"pontoon/api"
	"pontoon/cache"
)

// These tests speak of a key by one letter, which is its normal form.
// What happens is told as in "a1 a2 b3 2- a!": 1 asks a, and 2; 3 asks b; 2 leaves, a lands.
// How a board stands is told as in "a1:2,3 b4:": by rising keys, the leader and its followers.

// universe is the keys, by their letters, that are looked at wherever all are.
const universe = "abcz"

// key is a letter's key.
func key(letter string) cache.Key {
	return cache.Key{Norm: letter}
}

// number is a client's number.
func number(t *testing.T, text string) int {
	t.Helper()
	n, err := strconv.Atoi(text)
	if err != nil {
		t.Fatal(err)
	}
	return n
}

// happen lets happen what a text tells.
func happen(t *testing.T, b *Board, text string) {
	t.Helper()
	for _, what := range strings.Fields(text) {
		if client, is := strings.CutSuffix(what, "-"); is {
			b.Leave(number(t, client))
		} else if letter, is := strings.CutSuffix(what, "!"); is {
			b.Land(key(letter))
		} else {
			b.Ask(key(what[:1]), number(t, what[1:]))
		}
	}
	sane(t, b)
}

// after is a board on which has happened what a text tells.
func after(t *testing.T, text string) *Board {
	t.Helper()
	b := New()
	if b == nil {
		t.Fatal("New = nil")
	}
	happen(t, b, text)
	return b
}

// sane checks that what is kept fits together, and that no more is kept than is needed.
func sane(t *testing.T, b *Board) {
	t.Helper()
	n := 0
	for k, f := range b.flights {
		if f.key != k || b.seats[f.leader] != (seat{in: f}) {
			t.Errorf("the flight of %v has the key %v; its leader %d has the seat %v", k, f.key, f.leader, b.seats[f.leader])
		}
		for number, client := range f.followers {
			if number < 1 || number > f.last || b.seats[client] != (seat{f, number}) {
				t.Errorf("the follower %d is the %d. of %d, and has the seat %v", client, number, f.last, b.seats[client])
			}
		}
		n += 1 + len(f.followers)
	}
	if len(b.seats) != n {
		t.Errorf("there are %d seats, want %d", len(b.seats), n)
	}
}

// numbers is clients' numbers as text.
func numbers(l []int) string {
	var parts []string
	for _, n := range l {
		parts = append(parts, strconv.Itoa(n))
	}
	return strings.Join(parts, ",")
}

// show is how a board stands.
func show(b *Board) string {
	var parts []string
	for _, k := range slices.SortedFunc(maps.Keys(b.flights), func(a, b cache.Key) int { return strings.Compare(a.Norm, b.Norm) }) {
		f := b.flights[k]
		parts = append(parts, k.Norm+strconv.Itoa(f.leader)+":"+numbers(f.line()))
	}
	return strings.Join(parts, " ")
}

// stands checks how a board stands, by all that it tells.
func stands(t *testing.T, b *Board, want string) {
	t.Helper()
	sane(t, b)
	flights := strings.Fields(want)
	if got := show(b); got != want || b.Open() != len(flights) {
		t.Errorf("there is %q, and %d are open, want %q", got, b.Open(), want)
	}
	leaders := map[string]int{}
	places := map[int]string{}
	for _, f := range flights {
		leader, followers, _ := strings.Cut(f[1:], ":")
		leaders[f[:1]] = number(t, leader)
		places[number(t, leader)] = f[:1]
		for _, client := range strings.FieldsFunc(followers, func(r rune) bool { return r == ',' }) {
			places[number(t, client)] = f[:1]
		}
	}
	for _, letter := range strings.Split(universe, "") {
		led, is := leaders[letter]
		if got, ok := b.Leader(key(letter)); got != led || ok != is {
			t.Errorf("Leader(%s) = %d, %t, want %d, %t", letter, got, ok, led, is)
		}
	}
	for client := -2; client < 30; client++ {
		letter, is := places[client]
		if got, ok := b.Waits(client); got != key(letter) || ok != is {
			t.Errorf("Waits(%d) = %v, %t, want %q, %t", client, got, ok, letter, is)
		}
	}
}

// asks checks an Ask.
func asks(t *testing.T, b *Board, k cache.Key, client int, want bool, err api.Errno) {
	t.Helper()
	if got, e := b.Ask(k, client); got != want || e != err {
		t.Errorf("Ask(%v, %d) = %t, %d, want %t, %d", k, client, got, e, want, err)
	}
	sane(t, b)
}

// lands checks a Land.
func lands(t *testing.T, b *Board, k cache.Key, leader int, followers []int, is bool) {
	t.Helper()
	if n, l, ok := b.Land(k); n != leader || !slices.Equal(l, followers) || ok != is {
		t.Errorf("Land(%v) = %d, %v, %t, want %d, %v, %t", k, n, l, ok, leader, followers, is)
	}
	sane(t, b)
}

// leaves checks a Leave.
func leaves(t *testing.T, b *Board, client int, followers []int, is bool) {
	t.Helper()
	if l, ok := b.Leave(client); !slices.Equal(l, followers) || ok != is {
		t.Errorf("Leave(%d) = %v, %t, want %v, %t", client, l, ok, followers, is)
	}
	sane(t, b)
}

// copyOf is a copy of a struct, which New did not give.
func copyOf[T any](p *T) *T {
	c := *p
	return &c
}

// P14.1, P14.2: the example of the chapter
func TestExample(t *testing.T) {
	b := New()
	asks(t, b, key("q"), 1, true, api.OK)
	asks(t, b, key("q"), 2, false, api.OK)
	lands(t, b, key("q"), 1, []int{2}, true)
}

// P14.1: who leads, who follows, and who may not ask
func TestAsk(t *testing.T) {
	for _, f := range []struct {
		from, letter string
		client       int
		want         bool
		err          api.Errno
		to           string
	}{
		{"", "a", 1, true, api.OK, "a1:"}, {"", "a", 0, true, api.OK, "a0:"}, {"", "b", 7, true, api.OK, "b7:"},
		{"a1", "a", 2, false, api.OK, "a1:2"}, {"a1", "a", 0, false, api.OK, "a1:0"}, {"a0", "a", 1, false, api.OK, "a0:1"}, {"a1", "b", 2, true, api.OK, "a1: b2:"}, {"a1", "b", 0, true, api.OK, "a1: b0:"},
		{"a1 a2", "a", 3, false, api.OK, "a1:2,3"}, {"a3 a2", "a", 1, false, api.OK, "a3:2,1"}, {"a3 a2 a4", "a", 0, false, api.OK, "a3:2,4,0"}, {"a1 b2 a3 b4", "b", 5, false, api.OK, "a1:3 b2:4,5"}, {"a1 b2 a3 b4", "c", 5, true, api.OK, "a1:3 b2:4 c5:"},
		// Below 0, where there is a flight, and where there is none
		{"", "a", -1, false, api.ErrArg, ""}, {"", "a", math.MinInt, false, api.ErrArg, ""}, {"a1", "a", -1, false, api.ErrArg, "a1:"}, {"a1", "b", -1, false, api.ErrArg, "a1:"}, {"a1 a2", "a", -2, false, api.ErrArg, "a1:2"}, {"a0", "a", -1 << 32, false, api.ErrArg, "a0:"},
		// One that leads already
		{"a1", "a", 1, false, api.ErrState, "a1:"}, {"a1", "b", 1, false, api.ErrState, "a1:"}, {"a0", "a", 0, false, api.ErrState, "a0:"}, {"a0", "b", 0, false, api.ErrState, "a0:"}, {"a1 b2", "b", 1, false, api.ErrState, "a1: b2:"}, {"a1 a2", "a", 1, false, api.ErrState, "a1:2"},
		// One that follows already
		{"a1 a2", "a", 2, false, api.ErrState, "a1:2"}, {"a1 a2", "b", 2, false, api.ErrState, "a1:2"}, {"a1 a0", "c", 0, false, api.ErrState, "a1:0"}, {"a1 a2 b3", "b", 2, false, api.ErrState, "a1:2 b3:"}, {"a1 a2 a3", "a", 2, false, api.ErrState, "a1:2,3"},
		// Behind a Land, and behind a Leave, each may ask again.
		{"a1 a2 a!", "a", 1, true, api.OK, "a1:"}, {"a1 a2 a!", "a", 2, true, api.OK, "a2:"}, {"a1 a2 a3 a! a2", "a", 1, false, api.OK, "a2:1"}, {"a1 a2 a!", "b", 2, true, api.OK, "b2:"},
		{"a1 1-", "a", 1, true, api.OK, "a1:"}, {"a1 a2 1-", "a", 2, true, api.OK, "a2:"}, {"a1 a2 1- a2", "a", 1, false, api.OK, "a2:1"}, {"a1 a2 2-", "a", 2, false, api.OK, "a1:2"}, {"a1 a2 2-", "b", 2, true, api.OK, "a1: b2:"}, {"a1 b2 b3 1-", "b", 1, false, api.OK, "b2:3,1"},
		// One that left comes last again.
		{"a1 a2 a3 2-", "a", 2, false, api.OK, "a1:3,2"}, {"a1 a2 a3 a4 3- 2-", "a", 3, false, api.OK, "a1:4,3"}, {"a1 a2 a3 3-", "a", 3, false, api.OK, "a1:2,3"}, {"a1 a2 a3 3-", "a", 4, false, api.OK, "a1:2,4"},
		{"a1 a2 a3 a4 2- a2 3- a3", "a", 5, false, api.OK, "a1:4,2,3,5"}, {"a1 a2 a3 2- 3-", "a", 4, false, api.OK, "a1:4"},
	} {
		b := after(t, f.from)
		asks(t, b, key(f.letter), f.client, f.want, f.err)
		stands(t, b, f.to)
	}
}

// P14.1: an Ask that is wrong by its client, and by that of another, changes nothing
func TestAskWrong(t *testing.T) {
	b := after(t, "a1 a2 b3 a4")
	for range 3 {
		for client := -3; client < 5; client++ {
			if client == 0 {
				continue
			}
			want := api.ErrState
			if client < 0 {
				want = api.ErrArg
			}
			for _, letter := range strings.Split(universe, "") {
				asks(t, b, key(letter), client, false, want)
			}
		}
	}
	stands(t, b, "a1:2,4 b3:")
	leaves(t, b, 4, nil, true)
	happen(t, b, "a4")
	stands(t, b, "a1:2,4 b3:")
}

// P14.2: a flight is closed
func TestLand(t *testing.T) {
	for _, f := range []struct {
		from, letter string
		leader       int
		followers    []int
		is           bool
		to           string
	}{
		{"", "a", 0, nil, false, ""}, {"b1", "a", 0, nil, false, "b1:"}, {"b1 b2", "a", 0, nil, false, "b1:2"},
		{"a1", "a", 1, nil, true, ""}, {"a0", "a", 0, nil, true, ""}, {"a1 a0", "a", 1, []int{0}, true, ""}, {"a0 a1", "a", 0, []int{1}, true, ""},
		{"a1 a2 a3", "a", 1, []int{2, 3}, true, ""}, {"a3 a2 a1", "a", 3, []int{2, 1}, true, ""}, {"a2 a3 a1", "a", 2, []int{3, 1}, true, ""}, {"a2 a1 a3", "a", 2, []int{1, 3}, true, ""},
		{"a5 a9 a10 a8 a11 a7 a12 a6 a13 a4 a14 a3 a15 a2", "a", 5, []int{9, 10, 8, 11, 7, 12, 6, 13, 4, 14, 3, 15, 2}, true, ""},
		{"a1 b2 a3 b4 c5", "a", 1, []int{3}, true, "b2:4 c5:"}, {"a1 b2 a3 b4 c5", "b", 2, []int{4}, true, "a1:3 c5:"}, {"a1 b2 a3 b4 c5", "c", 5, nil, true, "a1:3 b2:4"}, {"a1 b2 a3 b4 c5", "z", 0, nil, false, "a1:3 b2:4 c5:"},
		// Behind another one, and behind the same
		{"a1 a2 a!", "a", 0, nil, false, ""}, {"a1 a2 a! a3", "a", 3, nil, true, ""}, {"a1 a2 a! a2 a1", "a", 2, []int{1}, true, ""}, {"a1 b2 a! b1 b3", "b", 2, []int{1, 3}, true, ""},
		// Those that left are not told.
		{"a1 1-", "a", 0, nil, false, ""}, {"a1 a2 1-", "a", 0, nil, false, ""}, {"a1 a2 2-", "a", 1, nil, true, ""}, {"a1 a2 a3 a4 3-", "a", 1, []int{2, 4}, true, ""}, {"a1 a2 a3 a4 2-", "a", 1, []int{3, 4}, true, ""}, {"a1 a2 a3 a4 4-", "a", 1, []int{2, 3}, true, ""},
		{"a1 a2 a3 a4 2- a2", "a", 1, []int{3, 4, 2}, true, ""}, {"a1 a2 a3 a4 4- 3- a5 a3 a4", "a", 1, []int{2, 5, 3, 4}, true, ""}, {"a1 a2 a3 a4 2- 3- 4-", "a", 1, nil, true, ""}, {"a1 a2 a3 a4 2- 4- b2 b4", "b", 2, []int{4}, true, "a1:3"},
		{"a1 a2 1- a3 a2", "a", 3, []int{2}, true, ""},
	} {
		b := after(t, f.from)
		lands(t, b, key(f.letter), f.leader, f.followers, f.is)
		stands(t, b, f.to)
		lands(t, b, key(f.letter), 0, nil, false)
		stands(t, b, f.to)
	}
}

// P14.4: a client leaves, as one that follows, as one that leads, as neither
func TestLeave(t *testing.T) {
	for _, f := range []struct {
		from      string
		client    int
		followers []int
		is        bool
		to        string
	}{
		{"", 1, nil, false, ""}, {"", 0, nil, false, ""}, {"", -1, nil, false, ""}, {"a1", 2, nil, false, "a1:"}, {"a1", 0, nil, false, "a1:"}, {"a1", -1, nil, false, "a1:"}, {"a1 a2", 3, nil, false, "a1:2"}, {"a0 a1", -1, nil, false, "a0:1"},
		{"a1 a2 b3", math.MaxInt, nil, false, "a1:2 b3:"}, {"a1 a2 b3", math.MinInt, nil, false, "a1:2 b3:"}, {"a1 a2 b3", 1<<32 + 1, nil, false, "a1:2 b3:"}, {"a1 a2 b3", 1<<32 + 2, nil, false, "a1:2 b3:"},
		// One that follows
		{"a1 a2", 2, nil, true, "a1:"}, {"a1 a0", 0, nil, true, "a1:"}, {"a1 a2 a3 a4", 2, nil, true, "a1:3,4"}, {"a1 a2 a3 a4", 3, nil, true, "a1:2,4"}, {"a1 a2 a3 a4", 4, nil, true, "a1:2,3"}, {"a4 a3 a2 a1", 1, nil, true, "a4:3,2"},
		{"a1 b2 b3 a4", 3, nil, true, "a1:4 b2:"}, {"a1 b2 b3 a4", 4, nil, true, "a1: b2:3"}, {"a1 a2 a3 2- a2", 2, nil, true, "a1:3"}, {"a1 a2 a3 2- a2", 3, nil, true, "a1:2"},
		// One that leads
		{"a1", 1, nil, true, ""}, {"a0", 0, nil, true, ""}, {"a1 a2", 1, []int{2}, true, ""}, {"a1 a0", 1, []int{0}, true, ""}, {"a1 a4 a2 a3", 1, []int{4, 2, 3}, true, ""}, {"a4 a3 a2 a1", 4, []int{3, 2, 1}, true, ""}, {"a0 a3 a2 a1", 0, []int{3, 2, 1}, true, ""},
		{"a5 a9 a10 a8 a11 a7 a12 a6 a13 a4 a14 a3 a15 a2", 5, []int{9, 10, 8, 11, 7, 12, 6, 13, 4, 14, 3, 15, 2}, true, ""},
		{"a1 b2 a3 b4 c5", 1, []int{3}, true, "b2:4 c5:"}, {"a1 b2 a3 b4 c5", 2, []int{4}, true, "a1:3 c5:"}, {"a1 b2 a3 b4 c5", 5, nil, true, "a1:3 b2:4"},
		{"a1 a2 a3 a4 3-", 1, []int{2, 4}, true, ""}, {"a1 a2 a3 a4 2- a2", 1, []int{3, 4, 2}, true, ""}, {"a1 a2 a3 2- 3-", 1, nil, true, ""},
		// Behind a Land, and behind another Leave
		{"a1 a2 a!", 1, nil, false, ""}, {"a1 a2 a!", 2, nil, false, ""}, {"a1 a2 1-", 2, nil, false, ""}, {"a1 a2 1-", 1, nil, false, ""}, {"a1 a2 2-", 2, nil, false, "a1:"}, {"a1 a2 1- a2 a1", 2, []int{1}, true, ""}, {"a1 a2 1- a2 a1", 1, nil, true, "a2:"}, {"a1 a2 a! b2 a1", 2, nil, true, "a1:"},
	} {
		b := after(t, f.from)
		leaves(t, b, f.client, f.followers, f.is)
		stands(t, b, f.to)
		leaves(t, b, f.client, nil, false)
		stands(t, b, f.to)
	}
}

// P14.3: to be asked changes nothing, also of keys and clients that are not there
func TestLook(t *testing.T) {
	const text = "a1:2,3 b4: c0:5"
	b := after(t, "c0 a1 a2 b4 a3 c5")
	for range 2 {
		stands(t, b, text)
		for _, k := range keys() {
			if n, ok := b.Leader(k); n != 0 || ok {
				t.Errorf("Leader(%v) = %d, %t", k, n, ok)
			}
			lands(t, b, k, 0, nil, false)
		}
		for _, client := range []int{-1, 6, 1 << 32, 1<<32 + 1, math.MaxInt, math.MinInt} {
			if k, ok := b.Waits(client); k != (cache.Key{}) || ok {
				t.Errorf("Waits(%d) = %v, %t", client, k, ok)
			}
			leaves(t, b, client, nil, false)
		}
	}
	stands(t, b, text)
	stands(t, New(), "")
}

// keys is keys, right and wrong ones, no two of which are alike.
func keys() []cache.Key {
	long := strings.Repeat("k", 5000)
	return []cache.Key{
		{}, {Db: "q"}, {Role: "q"}, {Norm: "q"}, {Format: 1}, {Db: "q", Norm: "q"}, {Role: "q", Norm: "q"}, {Db: "q", Role: "q", Norm: "q"}, {Norm: "q", Format: 1},
		// Parts that run together alike
		{Db: "qr", Role: "s", Norm: "t"}, {Db: "q", Role: "rs", Norm: "t"}, {Db: "q", Role: "r", Norm: "st"}, {Db: "", Role: "qrs", Norm: "t"}, {Db: "qrst"}, {Norm: "qrst"}, {Role: "q\x00r"}, {Db: "q\x00", Role: "r"}, {Db: "q", Role: "\x00r"}, {Db: "q", Role: "r"},
		// Wrong ones
		{Norm: "\x00"}, {Norm: "q\x00"}, {Db: "\x00"}, {Role: "\x00"}, {Norm: "q", Format: 2}, {Norm: "q", Format: -1}, {Norm: "q", Format: 1 << 16}, {Norm: "q", Format: 1<<16 + 1}, {Norm: "q", Format: 1 << 32}, {Norm: "q", Format: math.MaxInt}, {Norm: "q", Format: math.MinInt},
		// Any bytes
		{Norm: "Q"}, {Norm: " q"}, {Norm: "q "}, {Norm: "\xff"}, {Norm: "\xff\xfe"}, {Norm: "\xc3\xa9"}, {Norm: "e\xcc\x81"}, {Norm: "q;"}, {Norm: long}, {Norm: long + "k"}, {Db: long}, {Role: long},
	}
}

// P14.1 to P14.4: keys are any structs of their kind; no two are taken as one
func TestKeys(t *testing.T) {
	all := keys()
	b := New()
	for i, k := range all {
		asks(t, b, k, 3*i, true, api.OK)
		if b.Open() != i+1 {
			t.Errorf("%d are open, want %d", b.Open(), i+1)
		}
	}
	for i, k := range all {
		asks(t, b, k, 3*i+2, false, api.OK)
		asks(t, b, k, 3*i+1, false, api.OK)
	}
	for i, k := range all {
		if n, ok := b.Leader(k); n != 3*i || !ok {
			t.Errorf("Leader(%v) = %d, %t, want %d", k, n, ok, 3*i)
		}
		for client := 3 * i; client < 3*i+3; client++ {
			if got, ok := b.Waits(client); got != k || !ok {
				t.Errorf("Waits(%d) = %v, %t, want %v", client, got, ok, k)
			}
		}
	}
	for i, k := range all {
		if i%2 == 0 {
			lands(t, b, k, 3*i, []int{3*i + 2, 3*i + 1}, true)
		} else {
			leaves(t, b, 3*i, []int{3*i + 2, 3*i + 1}, true)
		}
		if b.Open() != len(all)-i-1 {
			t.Errorf("%d are open, want %d", b.Open(), len(all)-i-1)
		}
		lands(t, b, k, 0, nil, false)
	}
	stands(t, b, "")
}

// P14.1 to P14.4: clients' numbers, which are any from 0 on; no two are taken as one
func TestClients(t *testing.T) {
	all := []int{0, math.MaxInt, 1, 1 << 31, 1<<31 - 1, 1 << 32, 1<<32 + 1, math.MaxInt - 1, 1 << 62, 1<<16 + 1, 100000, 100001}
	for i, leader := range all {
		followers := slices.Concat(all[i+1:], all[:i])
		b := New()
		for j, client := range slices.Concat([]int{leader}, followers) {
			if k, ok := b.Waits(client); k != (cache.Key{}) || ok {
				t.Errorf("Waits(%d) = %v, %t", client, k, ok)
			}
			asks(t, b, key("a"), client, j == 0, api.OK)
			asks(t, b, key("b"), client, false, api.ErrState)
		}
		left := followers[3]
		leaves(t, b, left, nil, true)
		leaves(t, b, left, nil, false)
		followers = slices.DeleteFunc(followers, func(client int) bool { return client == left })
		lands(t, b.Copy(), key("a"), leader, followers, true)
		leaves(t, b, leader, followers, true)
		stands(t, b, "")
	}
}

// P14.5: a copy stands there, and goes its own way
func TestCopy(t *testing.T) {
	const from = "a9 a3 a8 a1 b2 c5 c4 3- a3 a7"
	const text = "a9:8,1,3,7 b2: c5:4"
	for _, f := range []struct{ change, to string }{
		{"a6", "a9:8,1,3,7,6 b2: c5:4"}, {"b6", "a9:8,1,3,7 b2:6 c5:4"}, {"z6", "a9:8,1,3,7 b2: c5:4 z6:"}, {"a!", "b2: c5:4"}, {"b!", "a9:8,1,3,7 c5:4"}, {"a! b! c!", ""},
		{"9-", "b2: c5:4"}, {"8-", "a9:1,3,7 b2: c5:4"}, {"7-", "a9:8,1,3 b2: c5:4"}, {"1- 3-", "a9:8,7 b2: c5:4"}, {"2-", "a9:8,1,3,7 c5:4"}, {"5- c4 c5", "a9:8,1,3,7 b2: c4:5"}, {"8- a8 7- a7", "a9:1,3,8,7 b2: c5:4"}, {"4- a4 b! b6 a2", "a9:8,1,3,7,4,2 b6: c5:"},
	} {
		b := after(t, from)
		c := b.Copy()
		if c == b {
			t.Fatal("a copy is the thing itself")
		}
		stands(t, c, text)
		stands(t, b, text)
		happen(t, c, f.change)
		stands(t, b, text)
		stands(t, c, f.to)
		d := c.Copy().Copy()
		happen(t, b, f.change)
		stands(t, b, f.to)
		happen(t, b, "9- a20 8- 4- b21 c22 a! b!")
		stands(t, c, f.to)
		stands(t, d, f.to)
	}
	c := New().Copy()
	stands(t, c, "")
	happen(t, c, "a1 a2")
	stands(t, c, "a1:2")
}

// P14.5: what a copy is asked for, its own clients may ask, and others may not
func TestCopyAsks(t *testing.T) {
	b := after(t, "a1 a2 b3")
	c := b.Copy()
	lands(t, b, key("a"), 1, []int{2}, true)
	asks(t, c, key("a"), 1, false, api.ErrState)
	asks(t, c, key("c"), 2, false, api.ErrState)
	asks(t, b, key("c"), 2, true, api.OK)
	asks(t, c, key("c"), 4, true, api.OK)
	leaves(t, c, 3, nil, true)
	asks(t, b, key("b"), 4, false, api.OK)
	stands(t, b, "b3:4 c2:")
	stands(t, c, "a1:2 c4:")
}

// P14.2, P14.4: what is told goes its own way, spare room too
func TestToldIsNew(t *testing.T) {
	spoil := func(l []int) {
		for i := range l[:cap(l)] {
			l[:cap(l)][i] = 77
		}
	}
	for _, from := range []string{"a1 a2 a3 a4 b5 b6 b7", "a1 a2 a3 a4 a8 a9 3- b5 b6 b10 b7 10-"} {
		b := after(t, from)
		before := show(b)
		c := b.Copy()
		_, first, _ := b.Land(key("a"))
		second, _ := b.Leave(5)
		kept := slices.Clone(second)
		spoil(first)
		if !slices.Equal(second, kept) {
			t.Errorf("what was told became %v, was %v", second, kept)
		}
		spoil(second)
		stands(t, b, "")
		stands(t, c, before)
		happen(t, b, from)
		stands(t, b, before)
		spoil(first)
		spoil(second)
		stands(t, b, before)
	}
}

// P14.1: what is kept shares no memory with the texts of a key that was handed in
func TestHandedIn(t *testing.T) {
	bytes := []byte("dra")
	k := cache.Key{Db: unsafe.String(&bytes[0], 1), Role: unsafe.String(&bytes[1], 1), Norm: unsafe.String(&bytes[2], 1)}
	same := cache.Key{Db: "d", Role: "r", Norm: "a"}
	b := New()
	asks(t, b, k, 1, true, api.OK)
	asks(t, b, k, 2, false, api.OK)
	c := b.Copy()
	copy(bytes, "xyz")
	for _, b := range []*Board{b, c} {
		for client := 1; client < 3; client++ {
			if got, ok := b.Waits(client); got != same || !ok {
				t.Errorf("Waits(%d) = %v, %t", client, got, ok)
			}
		}
		if _, ok := b.Leader(k); ok {
			t.Errorf("there is a flight of %v", k)
		}
		asks(t, b, same, 3, false, api.OK)
		lands(t, b, same, 1, []int{2, 3}, true)
		stands(t, b, "")
	}
}

// A nil one, and those that New did not give
func TestForeign(t *testing.T) {
	const text = "a1:2,0 b3:"
	b := after(t, "a1 a2 b3 a0")
	for _, f := range []*Board{nil, {}, new(Board), copyOf(b), copyOf(New()), {self: b}, {flights: b.flights, seats: b.seats}, {self: New(), flights: b.flights, seats: b.seats}} {
		for _, k := range slices.Concat(keys(), []cache.Key{key("a"), key("b"), key("c")}) {
			for _, client := range []int{0, 1, 2, 3, 4, -1, math.MaxInt, math.MinInt} {
				if leads, err := f.Ask(k, client); leads || err != api.ErrNil {
					t.Errorf("Ask(%v, %d) = %t, %d", k, client, leads, err)
				}
				if got, ok := f.Waits(client); got != (cache.Key{}) || ok {
					t.Errorf("Waits(%d) = %v, %t", client, got, ok)
				}
				if l, ok := f.Leave(client); len(l) != 0 || ok {
					t.Errorf("Leave(%d) = %v, %t", client, l, ok)
				}
			}
			if n, ok := f.Leader(k); n != 0 || ok {
				t.Errorf("Leader(%v) = %d, %t", k, n, ok)
			}
			if n, l, ok := f.Land(k); n != 0 || len(l) != 0 || ok {
				t.Errorf("Land(%v) = %d, %v, %t", k, n, l, ok)
			}
		}
		if n, c := f.Open(), f.Copy(); n != 0 || c != nil {
			t.Errorf("Open = %d, Copy = %v", n, c)
		}
	}
	stands(t, b, text)
}

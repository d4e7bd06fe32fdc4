package back

import (
	"encoding/binary"
	"math/rand"
	"strings"
	"testing"

	"pontoon/api"
	"pontoon/frame"
)

// P20.3
func TestEncodedIsDecoded(t *testing.T) {
	for _, c := range rightOnes() {
		m, err := Encode(c.tell)
		if err != api.OK {
			t.Errorf("Encode(%+v): %d", c.tell, err)
		}
		if u, err := Decode(m); !alike(u, c.tell) || err != api.OK {
			t.Errorf("%+v came back as %+v, %d", c.tell, u, err)
		}
		if !frame.Right(m) {
			t.Errorf("the message of %+v is not right", c.tell)
		}
	}
}

// P20.3: a byte of a right body is changed: what is then decoded is encoded as it was, and is right.
func TestDecodedIsEncoded(t *testing.T) {
	for _, c := range rightOnes() {
		step := 1
		if len(c.body) > 100 {
			// A long body takes long to write, so it is changed to fewer others.
			step = 51
		}
		for at := range min(len(c.body), 50) {
			for b := 0; b < 256; b += step {
				body := []byte(c.body)
				body[at] = byte(b)
				encodes(t, api.Msg{Kind: c.tell.Kind, Body: string(body)})
			}
		}
	}
}

// P20.3: a right body of one kind is held to be one of another.
func TestDecodedIsEncodedOfOtherKinds(t *testing.T) {
	for _, c := range rightOnes() {
		for _, kind := range []byte(known) {
			encodes(t, api.Msg{Kind: kind, Body: c.body})
		}
	}
}

// P20.3: bytes of all sorts.
func TestDecodedIsEncodedOfAnyBytes(t *testing.T) {
	chance := rand.New(rand.NewSource(20))
	heads := []string{"", "\x00\x00", "\x00\x01", "\x00\x02", "\x00\x01\x00\x00\x00\x02", "a\x00", "M", "\x00\x00\x00", "\x00\x01k\x00" + tail, "\x00\x02k\x00" + tail}
	ends := []string{"", "", "", "\x00", "\x00\x00", tail, "\xff\xff\xff\xff"}
	bytes := "\x00\x00\x00\x00\x01\x01\x02\x03abI\xff"
	for range 200000 {
		body := []byte(heads[chance.Intn(len(heads))])
		for range chance.Intn(10) {
			body = append(body, bytes[chance.Intn(len(bytes))])
		}
		body = append(body, ends[chance.Intn(len(ends))]...)
		encodes(t, api.Msg{Kind: known[chance.Intn(len(known))], Body: string(body)})
	}
}

// encodes checks that what a message tells, if it tells something, is encoded as that message.
func encodes(t *testing.T, m api.Msg) {
	t.Helper()
	u, err := Decode(m)
	if err != api.OK {
		fails(t, m, api.ErrForm)
		return
	}
	if again, err := Encode(u); again != m || err != api.OK || !Right(u) {
		t.Errorf("%q came back as %q, %d, by way of %+v", m, again, err, u)
	}
	if _, ok := byWords(u); !ok {
		t.Errorf("%q tells what is not right: %+v", m, u)
	}
}

// byWords is the body of what is told, and whether that is right, by the chapter's words one by one.
func byWords(u api.Tell) (string, bool) {
	four := func(b []byte, n int) []byte { return binary.BigEndian.AppendUint32(b, uint32(n)) }
	two := func(b []byte, n int) []byte { return binary.BigEndian.AppendUint16(b, uint16(n)) }
	text := func(b []byte, s string) []byte { return append(append(b, s...), 0) }
	has := api.Tell{Kind: u.Kind}
	var b []byte
	switch u.Kind {
	case 'R':
		has.N = u.N
		b = four(b, u.N)
		if u.N != 0 && u.N != 3 {
			return "", false
		}
	case 'K':
		has.N, has.M = u.N, u.M
		b = four(four(b, u.N), u.M)
	case 'Z':
		has.Status = u.Status
		b = append(b, u.Status)
		if u.Status != 'I' && u.Status != 'T' && u.Status != 'E' {
			return "", false
		}
	case 'C':
		has.Text = u.Text
		b = text(b, u.Text)
	case 'S':
		has.Text, has.Vals = u.Text, u.Vals
		if len(u.Vals) != 1 {
			return "", false
		}
		b = text(text(b, u.Text), u.Vals[0])
	case 'T':
		has.Keys = u.Keys
		b = two(b, len(u.Keys))
		for _, k := range u.Keys {
			b = two(four(two(four(two(four(text(b, k), 0), 0), 25), -1), -1), 0)
		}
	case 'D':
		has.Vals, has.Null = u.Vals, u.Null
		if len(u.Null) != len(u.Vals) {
			return "", false
		}
		b = two(b, len(u.Vals))
		for i, v := range u.Vals {
			if u.Null[i] && v != "" {
				return "", false
			}
			if u.Null[i] {
				b = four(b, -1)
			} else {
				b = append(four(b, len(v)), v...)
			}
		}
	case 'E', 'N':
		has.Keys, has.Vals = u.Keys, u.Vals
		if len(u.Keys) != len(u.Vals) {
			return "", false
		}
		for i, k := range u.Keys {
			if len(k) != 1 {
				return "", false
			}
			b = text(append(b, k...), u.Vals[i])
		}
		b = append(b, 0)
	case '1', '2', '3', 'n', 'I', 's':
	default:
		return "", false
	}
	return string(b), alike(u, has) && bounded(u) && 4+len(b) <= 4096
}

// bounded tells whether the parts of what is told are as each of them must be, whatever its Kind.
func bounded(u api.Tell) bool {
	texts := append([]string{u.Text}, u.Keys...)
	if u.Kind != 'D' {
		texts = append(texts, u.Vals...)
	}
	for _, s := range texts {
		if strings.Contains(s, "\x00") {
			return false
		}
	}
	return len(u.Keys) <= 100 && len(u.Vals) <= 100 && u.N >= low && u.N <= high && u.M >= low && u.M <= high
}

// P20.2 and P20.3: what is told, of all sorts, right and wrong, is held against the chapter's words.
func TestAnyTell(t *testing.T) {
	chance := rand.New(rand.NewSource(2020))
	counts := map[byte][2]int{}
	var right []api.Tell
	all := ""
	for range 400000 {
		u := anyTell(chance)
		body, ok := byWords(u)
		if !ok {
			body = ""
		}
		want := api.Msg{Kind: u.Kind, Body: body}
		wantErr := api.OK
		if !ok {
			want, wantErr = api.Msg{}, api.ErrForm
		}
		if m, err := Encode(u); m != want || err != wantErr || Right(u) != ok {
			t.Fatalf("Encode(%+v) = %q, %d, Right %t, want %q, %d", u, m, err, Right(u), want, wantErr)
		}
		n := counts[u.Kind]
		if ok {
			n[0]++
			if back, err := Decode(want); !alike(back, u) || err != api.OK {
				t.Fatalf("%+v came back as %+v, %d", u, back, err)
			}
			if len(right) < 1000 {
				right = append(right, u)
				all += frame.Put(want)
			}
		} else {
			n[1]++
		}
		counts[u.Kind] = n
	}
	for _, kind := range []byte(known) {
		if n := counts[kind]; n[0] < 500 || n[1] < 500 {
			t.Errorf("Kind %q: %d right, %d wrong", kind, n[0], n[1])
		}
	}
	if s, err := Bytes(right); s != all || err != api.OK {
		t.Errorf("Bytes of %d: %d bytes, %d, want %d", len(right), len(s), err, len(all))
	}
}

// anyTell is a tell that has what its Kind has, most of the time, and sometimes more or less, or something that can't be.
func anyTell(chance *rand.Rand) api.Tell {
	u := api.Tell{Kind: known[chance.Intn(len(known))]}
	rare := func() bool { return chance.Intn(20) == 0 }
	if rare() {
		u.Kind = byte(chance.Intn(256))
	}
	if strings.IndexByte("RK", u.Kind) >= 0 != rare() {
		u.N = anyNumber(chance)
	}
	if u.Kind == 'K' != rare() {
		u.M = anyNumber(chance)
	}
	if u.Kind == 'Z' != rare() {
		u.Status = "ITEITEite\x00"[chance.Intn(10)]
	}
	if strings.IndexByte("CS", u.Kind) >= 0 != rare() {
		u.Text = anyText(chance)
	}
	if strings.IndexByte("TEN", u.Kind) >= 0 != rare() {
		for range anyCount(chance) {
			u.Keys = append(u.Keys, anyKey(chance, u.Kind))
		}
	}
	n := len(u.Keys)
	if u.Kind == 'S' {
		n = 1
	}
	if u.Kind == 'D' || rare() {
		n = anyCount(chance)
	}
	if strings.IndexByte("SDEN", u.Kind) >= 0 != rare() {
		for range n {
			u.Vals = append(u.Vals, anyText(chance))
		}
	}
	if u.Kind == 'D' != rare() {
		u.Null = anyNull(chance, u.Vals)
	}
	return u
}

// anyNull is which values are none: as many as there are, and those that have bytes are not, most of the time.
func anyNull(chance *rand.Rand, vals []string) []bool {
	var l []bool
	for _, v := range vals {
		l = append(l, chance.Intn(3) == 0 && (v == "" || chance.Intn(30) == 0))
	}
	switch chance.Intn(40) {
	case 0:
		l = append(l, false)
	case 1:
		l = l[:len(l)/2]
	}
	return l
}

func anyNumber(chance *rand.Rand) int {
	return []int{0, 3, 0, 3, 1, -1, 258, low, high, low - 1, high + 1, 1 << 32, 1<<32 + 3, -1 << 63}[chance.Intn(14)]
}

func anyCount(chance *rand.Rand) int {
	if chance.Intn(50) == 0 {
		return 99 + chance.Intn(3)
	}
	return chance.Intn(5)
}

func anyKey(chance *rand.Rand, kind byte) string {
	if kind == 'T' || chance.Intn(40) == 0 {
		return anyText(chance)
	}
	return string([]byte{byte(chance.Intn(256))})
}

func anyText(chance *rand.Rand) string {
	if chance.Intn(400) == 0 {
		return xs(4065 + chance.Intn(35))
	}
	letters := "abc\x01\x7f\x80\xff"
	if chance.Intn(20) == 0 {
		letters = "ab\x00"
	}
	s := make([]byte, chance.Intn(4))
	for i := range s {
		s[i] = letters[chance.Intn(len(letters))]
	}
	return string(s)
}

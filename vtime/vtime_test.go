package vtime_test

import (
	"math"
	"slices"
	"strings"
	"testing"

	"paceline/api"
	"paceline/vtime"
)

const (
	maxFrom = 65535
	maxSeq  = 1<<48 - 1
)

// edges are numbers at which an answer may turn.
func edges() []int {
	return []int{math.MinInt, -api.Inf, -1, 0, 1, 255, 256, 65535, 65536, api.MaxTime - 1, api.MaxTime, api.MaxTime + 1,
		1<<48 - 1, 1 << 48, api.Inf - 1, api.Inf, api.Inf + 1, math.MaxInt}
}

// anyKeys are keys of all edges in each part, whether they have a code or not.
func anyKeys() []api.Key {
	var keys []api.Key
	few := []int{math.MinInt, -1, 0, 1, math.MaxInt}
	for _, t := range []int{math.MinInt, -1, 0, 1, api.MaxTime, api.Inf, math.MaxInt} {
		for _, from := range few {
			for _, seq := range few {
				keys = append(keys, api.Key{T: t, From: from, Seq: seq})
			}
		}
	}
	return keys
}

// codedKeys are keys that have a code.
func codedKeys() []api.Key {
	var keys []api.Key
	for _, t := range []int{0, 1, 127, 128, 255, 256, 1<<32 - 1, 1 << 32, api.MaxTime - 1, api.MaxTime, api.Inf} {
		for _, from := range []int{0, 1, 127, 128, 255, 256, maxFrom - 1, maxFrom} {
			for _, seq := range []int{0, 1, 255, 256, 1 << 40, maxSeq - 1, maxSeq} {
				keys = append(keys, api.Key{T: t, From: from, Seq: seq})
			}
		}
	}
	return keys
}

// P1.1
func TestValid(t *testing.T) {
	for _, n := range edges() {
		want := slices.Contains([]int{0, 1, 255, 256, 65535, 65536, api.MaxTime - 1, api.MaxTime, api.Inf}, n)
		if got := vtime.Valid(n); got != want {
			t.Errorf("Valid(%d): %v", n, got)
		}
	}
}

// P1.2
func TestAdd(t *testing.T) {
	for _, x := range []struct{ t, d, want int }{
		{5, 3, 8},
		{0, 0, 0},
		{0, 7, 7},
		{-5, 3, 3},
		{-5, -3, 0},
		{-1, 1, 1},
		{math.MinInt, math.MinInt, 0},
		{math.MinInt, 4, 4},
		{math.MinInt, api.MaxTime, api.MaxTime},
		{math.MinInt, api.Inf, api.Inf},
		{math.MinInt, math.MaxInt, api.Inf},
		{api.MaxTime, -1, api.MaxTime},
		{api.MaxTime, 0, api.MaxTime},
		{api.MaxTime, 1, api.Inf},
		{api.MaxTime - 1, 1, api.MaxTime},
		{api.MaxTime - 1, 2, api.Inf},
		{api.MaxTime / 2, api.MaxTime / 2, api.MaxTime},
		{api.MaxTime / 2, api.MaxTime/2 + 1, api.Inf},
		{api.MaxTime, api.MaxTime, api.Inf},
		{api.MaxTime + 1, 0, api.Inf},
		{api.MaxTime + 1, -1, api.Inf},
		{api.Inf - 1, 0, api.Inf},
		{api.Inf, 0, api.Inf},
		{api.Inf, -1, api.Inf},
		{api.Inf, api.Inf, api.Inf},
		{api.Inf + 1, 0, api.Inf},
		{math.MaxInt, 0, api.Inf},
		{math.MaxInt, math.MaxInt, api.Inf},
	} {
		if got := vtime.Add(x.t, x.d); got != x.want {
			t.Errorf("Add(%d, %d): %d, not %d", x.t, x.d, got, x.want)
		}
		if got := vtime.Add(x.d, x.t); got != x.want {
			t.Errorf("Add(%d, %d): %d, not %d", x.d, x.t, got, x.want)
		}
	}
}

// P1.2
func TestAddTellsTimes(t *testing.T) {
	for _, a := range edges() {
		for _, b := range edges() {
			if got := vtime.Add(a, b); !vtime.Valid(got) {
				t.Errorf("Add(%d, %d): %d is no time", a, b, got)
			}
		}
	}
}

// P1.2
func TestLeast(t *testing.T) {
	for _, x := range []struct {
		l    []int
		want int
	}{
		{nil, api.Inf},
		{[]int{}, api.Inf},
		{[]int{0}, 0},
		{[]int{7}, 7},
		{[]int{3, 5, 9}, 3},
		{[]int{5, 3, 9}, 3},
		{[]int{9, 5, 3}, 3},
		{[]int{4, 4}, 4},
		{[]int{-4}, 0},
		{[]int{2, -4, 1}, 0},
		{[]int{math.MinInt, -1}, 0},
		{[]int{api.MaxTime}, api.MaxTime},
		{[]int{api.MaxTime + 1}, api.Inf},
		{[]int{api.MaxTime + 1, api.MaxTime}, api.MaxTime},
		{[]int{api.Inf - 1}, api.Inf},
		{[]int{api.Inf}, api.Inf},
		{[]int{api.Inf + 1, math.MaxInt}, api.Inf},
		{[]int{api.Inf, 6}, 6},
	} {
		if got := vtime.Least(x.l); got != x.want {
			t.Errorf("Least(%v): %d, not %d", x.l, got, x.want)
		}
	}
}

// P1.2, with R3
func TestLeastLeavesItsListAsItIs(t *testing.T) {
	all := []int{5, -3, math.MaxInt, 2, -9, 1}
	before := slices.Clone(all)
	if got := vtime.Least(all[:1]); got != 5 {
		t.Errorf("what lies behind the list's length counts: %d", got)
	}
	vtime.Least(all[:4])
	if !slices.Equal(all, before) {
		t.Errorf("changed: %v", all)
	}
}

// P1.3
func TestCmp(t *testing.T) {
	for _, x := range []struct {
		a, b api.Key
		want int
	}{
		{api.Key{T: 1, From: 2, Seq: 3}, api.Key{T: 1, From: 2, Seq: 4}, -1},
		{api.Key{T: 1, From: 2, Seq: 3}, api.Key{T: 1, From: 2, Seq: 3}, 0},
		{api.Key{T: 1, From: 9, Seq: 9}, api.Key{T: 2}, -1},
		{api.Key{T: 1, From: 1, Seq: 9}, api.Key{T: 1, From: 2}, -1},
		{api.Key{T: 1, From: 9}, api.Key{T: 2, Seq: 9}, -1},
		{api.Key{T: -1}, api.Key{}, -1},
		{api.Key{From: -1}, api.Key{}, -1},
		{api.Key{Seq: -1}, api.Key{}, -1},
		{api.Key{T: api.MaxTime + 1}, api.Key{T: api.Inf}, -1},
		{api.Key{T: api.Inf}, api.Key{T: api.Inf + 1}, -1},
		{api.Key{From: 65535}, api.Key{From: 65536}, -1},
		{api.Key{Seq: maxSeq}, api.Key{Seq: maxSeq + 1}, -1},
		{api.Key{T: math.MinInt}, api.Key{T: math.MaxInt}, -1},
		{api.Key{From: math.MinInt}, api.Key{From: math.MaxInt}, -1},
		{api.Key{Seq: math.MinInt}, api.Key{Seq: math.MaxInt}, -1},
	} {
		if got := vtime.Cmp(x.a, x.b); got != x.want {
			t.Errorf("Cmp(%v, %v): %d, not %d", x.a, x.b, got, x.want)
		}
		if got := vtime.Cmp(x.b, x.a); got != -x.want {
			t.Errorf("Cmp(%v, %v): %d, not %d", x.b, x.a, got, -x.want)
		}
	}
}

// P1.4
func TestCode(t *testing.T) {
	for _, x := range []struct {
		k    api.Key
		want string
	}{
		{api.Key{}, strings.Repeat("\x00", 16)},
		{api.Key{T: 258, From: 3, Seq: 1<<40 + 5}, "\x00\x00\x00\x00\x00\x00\x01\x02" + "\x00\x03" + "\x01\x00\x00\x00\x00\x05"},
		{api.Key{T: 0x0102030405, From: 0x0607, Seq: 0x08090a0b0c0d}, "\x00\x00\x00\x01\x02\x03\x04\x05" + "\x06\x07" + "\x08\x09\x0a\x0b\x0c\x0d"},
		{api.Key{T: api.MaxTime, From: maxFrom, Seq: maxSeq}, "\x00\x00\x01\x00\x00\x00\x00\x00" + "\xff\xff" + "\xff\xff\xff\xff\xff\xff"},
		{api.Key{T: api.Inf}, "\x00\x04\x00\x00\x00\x00\x00\x00" + "\x00\x00" + "\x00\x00\x00\x00\x00\x00"},
	} {
		if s, e := vtime.Code(x.k); s != x.want || e != api.OK {
			t.Errorf("Code(%v): %x, %d", x.k, s, e)
		}
		if k, e := vtime.Decode(x.want); k != x.k || e != api.OK {
			t.Errorf("Decode(%x): %v, %d", x.want, k, e)
		}
	}
}

// P1.4
func TestCodeRefuses(t *testing.T) {
	refused := func(k api.Key) {
		if s, e := vtime.Code(k); s != "" || e != api.ErrArg {
			t.Errorf("Code(%v): %x, %d", k, s, e)
		}
	}
	for _, n := range []int{math.MinInt, -1, api.MaxTime + 1, api.Inf - 1, api.Inf + 1, math.MaxInt} {
		refused(api.Key{T: n, From: 1, Seq: 1})
	}
	for _, n := range []int{math.MinInt, -1, maxFrom + 1, math.MaxInt} {
		refused(api.Key{T: 1, From: n, Seq: 1})
	}
	for _, n := range []int{math.MinInt, -1, maxSeq + 1, math.MaxInt} {
		refused(api.Key{T: 1, From: 1, Seq: n})
	}
}

// P1.4
func TestDecodeTellsWhatWasCoded(t *testing.T) {
	for _, k := range codedKeys() {
		s, e := vtime.Code(k)
		if len(s) != 16 || e != api.OK {
			t.Fatalf("Code(%v): %x, %d", k, s, e)
		}
		if got, e := vtime.Decode(s); got != k || e != api.OK {
			t.Errorf("Decode(%x): %v, %d, not %v", s, got, e, k)
		}
	}
}

// P1.4
func TestDecodeRefuses(t *testing.T) {
	rest := "\x00\x03\x00\x00\x00\x00\x00\x05"
	good := "\x00\x00\x00\x00\x00\x00\x00\x07" + rest
	if k, e := vtime.Decode(good); k != (api.Key{T: 7, From: 3, Seq: 5}) || e != api.OK {
		t.Fatalf("%v, %d", k, e)
	}
	for _, s := range []string{
		"",
		"\x00",
		good[1:],
		good[:15],
		good + "\x00",
		"\x00" + good,
		good + good,
		"\x00\x00\x01\x00\x00\x00\x00\x01" + rest,
		"\x00\x03\xff\xff\xff\xff\xff\xff" + rest,
		"\x00\x04\x00\x00\x00\x00\x00\x01" + rest,
		"\x01\x00\x00\x00\x00\x00\x00\x07" + rest,
		"\x7f\xff\xff\xff\xff\xff\xff\xff" + rest,
		"\x80\x00\x00\x00\x00\x00\x00\x07" + rest,
		strings.Repeat("\xff", 16),
	} {
		if k, e := vtime.Decode(s); k != (api.Key{}) || e != api.ErrForm {
			t.Errorf("Decode(%x): %v, %d", s, k, e)
		}
	}
}

// P1.4
func TestDecodeOfEachChangedByte(t *testing.T) {
	for _, k := range []api.Key{{}, {T: 258, From: 3, Seq: 5}, {T: api.MaxTime, From: maxFrom, Seq: maxSeq}, {T: api.Inf}} {
		s, _ := vtime.Code(k)
		for i := range len(s) {
			for b := range 256 {
				checkDecode(t, s[:i]+string([]byte{byte(b)})+s[i+1:])
			}
		}
	}
}

// checkDecode: s is the code of what it tells, or it tells nothing, and its T is no time.
func checkDecode(t *testing.T, s string) {
	t.Helper()
	k, e := vtime.Decode(s)
	if e == api.OK {
		if again, e := vtime.Code(k); again != s || e != api.OK {
			t.Errorf("Decode(%x): %v, whose code is %x, %d", s, k, again, e)
		}
		return
	}
	time := uint64(0)
	for _, b := range []byte(s[:8]) {
		time = time<<8 | uint64(b)
	}
	if e != api.ErrForm || k != (api.Key{}) || time <= api.MaxTime || time == api.Inf {
		t.Errorf("Decode(%x): %v, %d", s, k, e)
	}
}

// P1.5
func TestCmpIsATotalOrder(t *testing.T) {
	keys := anyKeys()
	for _, a := range keys {
		for _, b := range keys {
			n := vtime.Cmp(a, b)
			if n < -1 || n > 1 || n != -vtime.Cmp(b, a) || (n == 0) != (a == b) {
				t.Fatalf("Cmp(%v, %v): %d, the other way %d", a, b, n, vtime.Cmp(b, a))
			}
			if n > 0 {
				continue
			}
			for _, c := range keys {
				if vtime.Cmp(b, c) <= 0 && vtime.Cmp(a, c) > 0 {
					t.Fatalf("%v, %v and %v go round", a, b, c)
				}
			}
		}
	}
}

// P1.5
func TestCodesAreOrderedAsTheirKeys(t *testing.T) {
	keys := codedKeys()
	codes := make([]string, len(keys))
	for i, k := range keys {
		codes[i], _ = vtime.Code(k)
	}
	for i, a := range keys {
		for j, b := range keys {
			if got, want := strings.Compare(codes[i], codes[j]), vtime.Cmp(a, b); got != want {
				t.Fatalf("codes of %v and %v: %d, keys %d", a, b, got, want)
			}
		}
	}
}

// R5: the same again, whatever was called in between.
func TestOneAnswer(t *testing.T) {
	k := api.Key{T: 9, From: 8, Seq: 7}
	first, _ := vtime.Code(k)
	vtime.Code(api.Key{T: -1})
	vtime.Decode("no code")
	if again, e := vtime.Code(k); again != first || e != api.OK {
		t.Errorf("%x, then %x, %d", first, again, e)
	}
	if vtime.Add(2, 3) != vtime.Add(2, 3) || vtime.Least([]int{4, 2}) != vtime.Least([]int{4, 2}) {
		t.Error("the answer changed")
	}
}

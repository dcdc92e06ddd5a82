package lines_test

import (
	"math"
	"regexp"
	"slices"
	"strconv"
	"strings"
	"testing"

	"paceline/api"
	"paceline/lines"
)

// sealLength is how many bytes a seal adds.
const sealLength = 10

// texts calls f with each text of up to most bytes of alphabet.
func texts(alphabet string, most int, f func(string)) {
	level := []string{""}
	for range most + 1 {
		var next []string
		for _, s := range level {
			f(s)
			for i := range len(alphabet) {
				next = append(next, s+alphabet[i:i+1])
			}
		}
		level = next
	}
}

func allBytes() string {
	var b []byte
	for c := range 256 {
		b = append(b, byte(c))
	}
	return string(b)
}

func same(a, b [][]string) bool {
	return slices.EqualFunc(a, b, slices.Equal[[]string])
}

// wrongLine tells the first line of s that is wrong, by another way than the program's; 0, if none is.
func wrongLine(s string) int {
	good := regexp.MustCompile(`^([^%]|%25|%2C|%0A)*\n$`)
	n := 0
	for line := range strings.SplitAfterSeq(s, "\n") {
		n++
		if line != "" && !good.MatchString(line) {
			return n
		}
	}
	return 0
}

// manyRows are rows that can be encoded, each with its text.
func manyRows() map[string][][]string {
	return map[string][][]string{
		"":                           nil,
		"\n":                         {{""}},
		"\n\n":                       {{""}, {""}},
		",\n":                        {{"", ""}},
		",,\n":                       {{"", "", ""}},
		"a%2Cb,c\n":                  {{"a,b", "c"}},
		"a,b,c\n":                    {{"a", "b", "c"}},
		"a\nb,c\n\n":                 {{"a"}, {"b", "c"}, {""}},
		"%25,%2C,%0A\n":              {{"%", ",", "\n"}},
		"%25%2C%0A\n":                {{"%,\n"}},
		"%2525,%252C,%250A\n":        {{"%25", "%2C", "%0A"}},
		"%25zz,%25\n":                {{"%zz", "%"}},
		"%0A%0A\n%0A\n":              {{"\n\n"}, {"\n"}},
		" a , b\t\r\n":               {{" a ", " b\t\r"}},
		"\x00\xff\xc3,\xc3\xa9,=;\n": {{"\x00\xff\xc3", "\xc3\xa9", "=;"}},
	}
}

// P2.1
func TestEncode(t *testing.T) {
	for want, rows := range manyRows() {
		if s, err := lines.Encode(rows); s != want || err != api.OK {
			t.Errorf("Encode(%q): %q, %d", rows, s, err)
		}
	}
	if s, err := lines.Encode([][]string{}); s != "" || err != api.OK {
		t.Errorf("Encode of no rows: %q, %d", s, err)
	}
}

// P2.1
func TestEncodeRefusesRowsWithoutFields(t *testing.T) {
	for _, rows := range [][][]string{{{}}, {nil}, {{}, {"a"}}, {{"a"}, {}}, {{"a"}, nil, {"b"}}} {
		if s, err := lines.Encode(rows); s != "" || err != api.ErrArg {
			t.Errorf("Encode(%q): %q, %d", rows, s, err)
		}
	}
}

// P2.1
func TestEncodeOfEachByte(t *testing.T) {
	for c := range 256 {
		want := string([]byte{byte(c)})
		switch c {
		case '%':
			want = "%25"
		case ',':
			want = "%2C"
		case '\n':
			want = "%0A"
		}
		if s, err := lines.Encode([][]string{{string([]byte{byte(c)})}}); s != want+"\n" || err != api.OK {
			t.Errorf("byte %d: %q, %d", c, s, err)
		}
	}
}

// P2.1
func TestDecode(t *testing.T) {
	for s, want := range manyRows() {
		if rows, n, err := lines.Decode(s); !same(rows, want) || n != 0 || err != api.OK {
			t.Errorf("Decode(%q): %q, %d, %d", s, rows, n, err)
		}
	}
}

// P2.1
func TestDecodeTellsTheFirstWrongLine(t *testing.T) {
	for s, want := range map[string]int{
		"a":                1,
		",":                1,
		"%25":              1,
		"%\n":              1,
		"a%zz\n":           1,
		"%2\n":             1,
		"%2":               1,
		"%%25\n":           1,
		"%25%\n":           1,
		"%2c\n":            1,
		"%0a\n":            1,
		"%2D\n":            1,
		"%2 5\n":           1,
		"%2,5\n":           1,
		"%2\n5\n":          1,
		"%,2C\n":           1,
		"\n%\n":            2,
		"a\nb":             2,
		"a\n%":             2,
		"a\nb\n%41\nc\n":   3,
		"a\n%1\n%2\nc":     2,
		"a\n\n\nlast":      4,
		"a,b\nc,%\nd":      2,
		"%\nno line feed":  1,
		"a\nb,%0A,%2Ce,%2": 2,
	} {
		if rows, n, err := lines.Decode(s); len(rows) != 0 || n != want || err != api.ErrForm {
			t.Errorf("Decode(%q): %q, %d, %d", s, rows, n, err)
		}
	}
}

// P2.1, P2.4: each text either is wrong in the line that is told, or is what its rows are encoded as.
func TestDecodeOfManyTexts(t *testing.T) {
	texts("%25C0A,\nx", 5, func(s string) {
		rows, n, err := lines.Decode(s)
		if want := wrongLine(s); want != 0 {
			if len(rows) != 0 || n != want || err != api.ErrForm {
				t.Errorf("Decode(%q): %q, %d, %d", s, rows, n, err)
			}
			return
		}
		back, errBack := lines.Encode(rows)
		if n != 0 || err != api.OK || back != s || errBack != api.OK {
			t.Errorf("Decode(%q): %q, %d, %d", s, rows, n, err)
		}
	})
}

// P2.4
func TestWhatIsEncodedIsDecoded(t *testing.T) {
	var rows [][]string
	texts("%,\n2x", 4, func(s string) {
		rows = append(rows, []string{s}, []string{s, "", s + allBytes()})
	})
	s, err := lines.Encode(rows)
	if err != api.OK {
		t.Fatal(err)
	}
	if back, n, err := lines.Decode(s); !same(back, rows) || n != 0 || err != api.OK {
		t.Errorf("%d rows, %d, %d", len(back), n, err)
	}
}

// R3
func TestRowsAreLeftAsTheyAre(t *testing.T) {
	room := [][]string{{"a,b", "%", "behind"}, {"c"}, {"behind"}}
	rows := room[:2]
	rows[0] = rows[0][:2]
	if s, err := lines.Encode(rows); s != "a%2Cb,%25\nc\n" || err != api.OK {
		t.Errorf("%q, %d", s, err)
	}
	if !same(room, [][]string{{"a,b", "%"}, {"c"}, {"behind"}}) || room[0][:3][2] != "behind" {
		t.Errorf("%q", room)
	}
}

// R3
func TestDecodedRowsShareNothing(t *testing.T) {
	rows, _, _ := lines.Decode("a,b\nc\nd,e,f\n")
	for i := range rows {
		room := rows[i][:cap(rows[i])]
		for j := range room {
			room[j] = "changed"
		}
		_ = append(rows[i], "more")
		rows[i] = nil
		for k, want := range [][]string{{"a", "b"}, {"c"}, {"d", "e", "f"}} {
			if k > i && !slices.Equal(rows[k], want) {
				t.Errorf("row %d became %q", k, rows[k])
			}
		}
	}
	if again, _, _ := lines.Decode("a,b\nc\nd,e,f\n"); !same(again, [][]string{{"a", "b"}, {"c"}, {"d", "e", "f"}}) {
		t.Errorf("%q", again)
	}
}

// P2.2
func TestInt(t *testing.T) {
	for n, want := range map[int]string{
		0: "0", 7: "7", -7: "-7", 10: "10", -10: "-10", 100: "100", 12345: "12345",
		1 << 60: "1152921504606846976", -1 << 60: "-1152921504606846976",
		math.MaxInt: "9223372036854775807", math.MinInt: "-9223372036854775808",
	} {
		if s := lines.Int(n); s != want {
			t.Errorf("Int(%d): %q", n, s)
		}
	}
}

// P2.2
func TestNum(t *testing.T) {
	for _, n := range []int{0, 1, -1, 9, 10, -10, 99, 100, api.MaxTime, api.Inf, 1<<60 - 1, 1 << 60, 1 - 1<<60, -1 << 60} {
		if m, err := lines.Num(lines.Int(n)); m != n || err != api.OK {
			t.Errorf("Num of %d: %d, %d", n, m, err)
		}
	}
}

// P2.2
func TestNumRefuses(t *testing.T) {
	for _, s := range []string{
		"", "-", "+", "-0", "+0", "00", "01", "-01", "+1", "--1", "-+1", "1-", " 1", "1 ", "1\n", "1.0", "1e3", "0x1", "1_0", "x", "1x", "\x00",
		"٣", "１", "1152921504606846977", "-1152921504606846977", "9223372036854775807", "-9223372036854775808",
		"9223372036854775808", "-9223372036854775809", "18446744073709551616", "18446744073709551617", "99999999999999999999",
		strings.Repeat("9", 300), strings.Repeat("0", 300), "-" + strings.Repeat("9", 300),
	} {
		if n, err := lines.Num(s); n != 0 || err != api.ErrForm {
			t.Errorf("Num(%q): %d, %d", s, n, err)
		}
	}
}

// P2.2
func TestNumOfManyTexts(t *testing.T) {
	number := regexp.MustCompile(`^(0|-?[1-9][0-9]*)$`)
	texts("-+01x ", 4, func(s string) {
		n, err := lines.Num(s)
		if !number.MatchString(s) {
			if n != 0 || err != api.ErrForm {
				t.Errorf("Num(%q): %d, %d", s, n, err)
			}
			return
		}
		if want, _ := strconv.Atoi(s); n != want || err != api.OK {
			t.Errorf("Num(%q): %d, %d", s, n, err)
		}
	})
}

// P2.3: the sums are those that are known of this hash.
func TestSum(t *testing.T) {
	for s, want := range map[string]uint32{
		"": 2166136261, "a": 0xe40c292c, "b": 0xe70c2de5, "foo": 0xa9f37ed7, "foobar": 0xbf9cf968, "\x00": 0x050c5d1f,
	} {
		if sum := lines.Sum(s); sum != want {
			t.Errorf("Sum(%q): %x", s, sum)
		}
	}
	for _, s := range []string{"\xff", "\xff\x00\x80", "é", allBytes()} {
		if sum := lines.Sum(s); sum != byHand(s) {
			t.Errorf("Sum(%q): %x", s, sum)
		}
	}
}

// byHand is the sum by numbers that do not wrap round.
func byHand(s string) uint32 {
	sum := uint64(2166136261)
	for _, c := range []byte(s) {
		sum = (sum ^ uint64(c)) * 16777619 % (1 << 32)
	}
	return uint32(sum)
}

// P2.3
func TestSeal(t *testing.T) {
	for s, want := range map[string]string{
		"":     "=811c9dc5\n",
		"a":    "a=e40c292c\n",
		"foo":  "foo=a9f37ed7\n",
		"\x00": "\x00=050c5d1f\n",
	} {
		if sealed := lines.Seal(s); sealed != want {
			t.Errorf("Seal(%q): %q", s, sealed)
		}
	}
}

// P2.3: sums with few digits are filled up by noughts.
func TestSealHasEightDigits(t *testing.T) {
	seal := regexp.MustCompile(`^=[0-9a-f]{8}\n$`)
	few := 0
	for i := range 5000 {
		s := strconv.Itoa(i)
		sealed := lines.Seal(s)
		if !strings.HasPrefix(sealed, s) || !seal.MatchString(sealed[len(s):]) {
			t.Errorf("Seal(%q): %q", s, sealed)
		}
		if sum, err := strconv.ParseUint(sealed[len(s)+1:len(sealed)-1], 16, 32); err != nil || uint32(sum) != lines.Sum(s) {
			t.Errorf("Seal(%q): %q", s, sealed)
		}
		if lines.Sum(s) < 1<<24 {
			few++
		}
	}
	if few == 0 {
		t.Error("no sum of few digits was tried")
	}
}

// P2.3
func TestUnseal(t *testing.T) {
	for _, s := range []string{"", "a", "x\ny", "=", "\n", "=811c9dc5\n", "a=e40c292c\n", "a,b\n", allBytes(), strings.Repeat("long", 500)} {
		if u, err := lines.Unseal(lines.Seal(s)); u != s || err != api.OK {
			t.Errorf("Unseal of Seal(%q): %q, %d", s, u, err)
		}
		if u, err := lines.Unseal(lines.Seal(lines.Seal(s))); u != lines.Seal(s) || err != api.OK {
			t.Errorf("Unseal of a seal twice of %q: %q, %d", s, u, err)
		}
	}
}

// P2.3
func TestUnsealRefuses(t *testing.T) {
	for _, s := range []string{
		"", "\n", "=", "a", "=811c9dc5", "811c9dc5\n", "=11c9dc5\n", "=0811c9dc5\n", "=811C9DC5\n", "=811c9dc5\n\n", "=811c9dc5\r\n", "==811c9dc5\n",
		"a=e40c292c", "a=e40c292d\n", "a=E40C292C\n", "b=e40c292c\n", "a:e40c292c\n", "a=e40c292c ", "a =e40c292c\n", "a= e40c292c\n", "a=e40c292c\nb",
		"\x00=50c5d1f\n", "\x00= 50c5d1f\n", "\x00=+50c5d1f\n", "\x00=0x050c5d1f\n",
	} {
		if u, err := lines.Unseal(s); u != "" || err != api.ErrSeal {
			t.Errorf("Unseal(%q): %q, %d", s, u, err)
		}
	}
}

// P2.4
func TestAChangedByteIsFound(t *testing.T) {
	for _, s := range []string{"", "a", "a,b\nc\n", "=811c9dc5\n", "\x00\xff"} {
		sealed := []byte(lines.Seal(s))
		if len(sealed) != len(s)+sealLength {
			t.Fatalf("Seal(%q): %q", s, sealed)
		}
		for i, was := range sealed {
			for c := range 256 {
				if sealed[i] = byte(c); sealed[i] == was {
					continue
				}
				if u, err := lines.Unseal(string(sealed)); u != "" || err != api.ErrSeal {
					t.Errorf("Unseal(%q): %q, %d", sealed, u, err)
				}
			}
			sealed[i] = was
		}
	}
}

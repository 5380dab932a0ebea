package sym

import (
	"math"
	"strconv"
	"strings"
	"testing"
	"unsafe"
)

const most = 1 << 16 // the longest texts of which the chapter speaks

// shortTexts are all texts of at most four bytes over symbols, bytes that are none, and pieces of longer runes.
func shortTexts() []string {
	alphabet := []string{"0", "1", "#", "x", "\x00", "\xff", "\xc3", "é", "０"}
	all := []string{""}
	last := all
	for range 4 {
		var next []string
		for _, s := range last {
			for _, a := range alphabet {
				next = append(next, s+a)
			}
		}
		all = append(all, next...)
		last = next
	}
	return all
}

// isStream says W1 in its own words, apart from the package's.
func isStream(s string) bool {
	return strings.Trim(strings.TrimSuffix(s, "#"), "01") == ""
}

func TestP101Clean(t *testing.T) {
	for _, x := range []struct{ s, want string }{
		{"", ""},
		{"01x1", "01"},
		{"0101", "0101"},
		{"01#", "01#"},
		{"#", "#"},
		{"##", "#"},
		{"01#01", "01#"},
		{"0#x", "0#"},
		{"x01", ""},
		{" 01", ""},
		{"01 ", "01"},
		{"2", ""},
		{"0/1", "0"},
		{"0\n1", "0"},
		{"0\x001", "0"},
		{"0\xff1", "0"},
		{"0\xc31", "0"},
		{"\xef\xbf\xbd01", ""},
		{"1é0", "1"},
		{"1０0", "1"},                 // a digit nought, but not the symbol
		{"1\u01300", "1"},            // the low byte of this rune's number is that of `0`
		{"\xb0\xb1", ""},             // the symbols, their eighth bit set
		{"\xf0\x9f\x98\x800", ""},    // four bytes of one rune
		{"01\xe2\x82" + "01#", "01"}, // a rune that is cut
	} {
		if got := Clean(x.s); got != x.want {
			t.Errorf("Clean(%q) = %q, want %q", x.s, got, x.want)
		}
	}
}

func TestP101CleanIsTheLongestStream(t *testing.T) {
	for _, s := range shortTexts() {
		want := 0
		for n := range len(s) + 1 {
			if isStream(s[:n]) {
				want = n
			}
		}
		if got := Clean(s); got != s[:want] {
			t.Errorf("Clean(%q) = %q, want %q", s, got, s[:want])
		}
	}
}

func TestP101CleanLong(t *testing.T) {
	bits := strings.Repeat("01", most/2)
	for _, x := range []struct{ s, want string }{
		{bits, bits},
		{bits[:most-1] + "#", bits[:most-1] + "#"},
		{bits[:most-1] + "x", bits[:most-1]},
		{bits[:most-2] + "#0", bits[:most-2] + "#"},
	} {
		if got := Clean(x.s); got != x.want {
			t.Errorf("Clean of %d bytes: %d bytes, want %d", len(x.s), len(got), len(x.want))
		}
	}
}

func TestP101Common(t *testing.T) {
	long := strings.Repeat("01", most/2)
	for _, x := range []struct{ a, b, want string }{
		{"", "", ""},
		{"", "01", ""},
		{"01", "01", "01"},
		{"01", "00", "0"},
		{"01", "011", "01"},
		{"0", "1", ""},
		{"01#", "010", "01"},
		{"01#0", "01#1", "01#"}, // fronts of any text, not of streams alone
		{"01xy", "01xz", "01x"},
		{"a0b", "a1b", "a"}, // what is the same again behind counts no more
		{"é", "è", "\xc3"},  // inside a rune
		{"\xff", "\xfe", ""},
		{"\xff0", "\xff1", "\xff"},
		{"\xef\xbf\xbd", "\xff", ""}, // both are read as the same rune
		{"0\x001", "0\x000", "0\x00"},
		{long, long, long},
		{long, long[:most-1] + "x", long[:most-1]},
	} {
		if got := Common(x.a, x.b); got != x.want {
			t.Errorf("Common(%.40q, %.40q) = %.40q, want %.40q", x.a, x.b, got, x.want)
		}
		if got := Common(x.b, x.a); got != x.want {
			t.Errorf("Common(%.40q, %.40q) = %.40q, want %.40q", x.b, x.a, got, x.want)
		}
	}
}

func TestP101Front(t *testing.T) {
	long := strings.Repeat("01", most/2)
	for _, x := range []struct {
		a, b string
		want bool
	}{
		{"", "", true},
		{"", "01", true},
		{"01", "", false},
		{"0", "01", true},
		{"01", "01", true},
		{"01", "0", false},
		{"1", "01", false},
		{"00", "01", false},
		{"01#", "01#1", true},
		{"01#", "01", false},
		{"x", "xy", true},
		{"\xc3", "é", true},
		{"\xff", "\xef\xbf\xbd", false},
		{"é", "\xc3", false},
		{long, long, true},
		{long[:most-1], long, true},
		{long[:most-1] + "x", long, false},
	} {
		if got := Front(x.a, x.b); got != x.want {
			t.Errorf("Front(%.40q, %.40q) = %v, want %v", x.a, x.b, got, x.want)
		}
	}
}

func TestP101Whole(t *testing.T) {
	for _, x := range []struct {
		s    string
		want bool
	}{
		{"", false},
		{"#", true},
		{"01#", true},
		{"0#", true},
		{"01", false},
		{"##", false},
		{"0##", false},
		{"0#1", false},
		{"0#1#", false},
		{"01#x", false},
		{"01# ", false},
		{"x#", false},
		{"0x#", false},
		{"é#", false},
		{"\xff#", false},
		{"0\x00#", false},
		{"01＃", false}, // a number sign, but not the symbol
		{strings.Repeat("1", most-1) + "#", true},
		{strings.Repeat("1", most), false},
	} {
		if got := Whole(x.s); got != x.want {
			t.Errorf("Whole(%.40q) = %v, want %v", x.s, got, x.want)
		}
	}
	for _, s := range shortTexts() {
		if got, want := Whole(s), isStream(s) && strings.Contains(s, "#"); got != want {
			t.Errorf("Whole(%q) = %v, want %v", s, got, want)
		}
	}
}

func TestP101Turn(t *testing.T) {
	long := strings.Repeat("0", most)
	for _, x := range []struct {
		s    string
		at   int
		want string
	}{
		{"0", 0, "1"},
		{"1", 0, "0"},
		{"#", 0, "0"},
		{"010", 0, "110"},
		{"010", 1, "000"},
		{"010", 2, "011"},
		{"01#", 2, "010"},
		{"0#1#", 1, "001#"},
		{"01x", 2, "01x"},
		{"01x", 1, "00x"},
		{"0/2", 1, "0/2"},
		{"0/2", 2, "0/2"},
		{"\xff0", 0, "\xff0"},
		{"\xff0", 1, "\xff1"},
		{"é0", 0, "é0"}, // places are of bytes: the two of é
		{"é0", 1, "é0"},
		{"é0", 2, "é1"},
		{"é0", 3, "é0"},
		{"\xb0", 0, "\xb0"},
		{"01", 2, "01"},
		{"01", 3, "01"},
		{"01", -1, "01"},
		{"01", -2, "01"},
		{"01", math.MaxInt, "01"},
		{"01", math.MinInt, "01"},
		{"", 0, ""},
		{"", -1, ""},
		{"", 1, ""},
		{long, most - 1, long[1:] + "1"},
		{long, most, long},
	} {
		if got := Turn(x.s, x.at); got != x.want {
			t.Errorf("Turn(%.40q, %d) = %.40q, want %.40q", x.s, x.at, got, x.want)
		}
	}
}

func TestP101TurnOfEachByte(t *testing.T) {
	for b := range 256 {
		want := byte(b)
		switch b {
		case '0':
			want = '1'
		case '1', '#':
			want = '0'
		}
		s := "01#" + string([]byte{byte(b)}) + "01#"
		if got := Turn(s, 3); got != "01#"+string([]byte{want})+"01#" {
			t.Errorf("Turn(%q, 3) = %q", s, got)
		}
	}
}

func TestP102Bits(t *testing.T) {
	for _, x := range []struct {
		n, size int
		want    string
	}{
		{5, 4, "0101"},
		{5, 3, "101"},
		{5, 2, "01"},
		{6, 3, "110"},
		{0, 1, "0"},
		{1, 1, "1"},
		{2, 1, "0"},
		{0, 3, "000"},
		{-1, 1, "1"},
		{-1, 3, "111"},
		{-2, 3, "110"},
		{-8, 3, "000"},
		{-5, 4, "1011"},
		{-1, 62, strings.Repeat("1", 62)},
		{0, 62, strings.Repeat("0", 62)},
		{1, 62, strings.Repeat("0", 61) + "1"},
		{1 << 61, 62, "1" + strings.Repeat("0", 61)},
		{1 << 61, 61, strings.Repeat("0", 61)},
		{1 << 62, 62, strings.Repeat("0", 62)},
		{math.MaxInt, 62, strings.Repeat("1", 62)},
		{math.MinInt, 62, strings.Repeat("0", 62)},
		{math.MinInt + 1, 62, strings.Repeat("0", 61) + "1"},
		{7, 0, ""},
		{7, -1, ""},
		{7, 63, ""},
		{7, 64, ""},
		{-1, 63, ""},
		{7, math.MaxInt, ""},
		{7, math.MinInt, ""},
	} {
		if got := Bits(x.n, x.size); got != x.want {
			t.Errorf("Bits(%d, %d) = %q, want %q", x.n, x.size, got, x.want)
		}
	}
}

func TestP102Num(t *testing.T) {
	for _, x := range []struct {
		s    string
		want int
	}{
		{"0", 0},
		{"1", 1},
		{"10", 2},
		{"01", 1},
		{"0101", 5},
		{"110", 6},
		{strings.Repeat("0", 62), 0},
		{strings.Repeat("0", 61) + "1", 1},
		{"1" + strings.Repeat("0", 61), 1 << 61},
		{strings.Repeat("1", 62), 1<<62 - 1},
		{strings.Repeat("1", 61), 1<<61 - 1},
	} {
		if got, is := Num(x.s); !is || got != x.want {
			t.Errorf("Num(%q) = %d, %v, want %d", x.s, got, is, x.want)
		}
	}
}

func TestP102NumOfOtherTexts(t *testing.T) {
	for _, s := range []string{
		"", "2", "/", "x", "#", "01#", "#01", "1 ", " 1", "+1", "-1", "1x1", "1_1", "0b1", "0\x00",
		"\xff", "1\xff", "\xb1", "é", "1é", "１", "\u0131", "1\xc3",
		strings.Repeat("0", 63),
		strings.Repeat("1", 63),
		strings.Repeat("0", 61) + "1#",
		strings.Repeat("0", 61) + "é", // 62 runes, 63 bytes
		strings.Repeat("0", 62) + "#",
		strings.Repeat("0", 64) + "1",
		strings.Repeat("1", most),
	} {
		if got, is := Num(s); is || got != 0 {
			t.Errorf("Num(%.70q) = %d, %v, want 0, false", s, got, is)
		}
	}
}

func TestP103NumbersAreReadAsTheyWereWritten(t *testing.T) {
	numbers := []int{0, 1, 2, 3, 12345, 1<<31 - 1, 1 << 31, 1<<61 + 77, 1<<62 - 1, 1 << 62, math.MaxInt, -1, -2, -12345, math.MinInt, math.MinInt + 1}
	for size := 1; size <= 62; size++ {
		for _, n := range numbers {
			want := n & (1<<size - 1)
			if got, is := Num(Bits(n, size)); !is || got != want {
				t.Errorf("Num(Bits(%d, %d)) = %d, %v, want %d", n, size, got, is, want)
			}
		}
	}
}

func TestP103BitsAreWrittenAsTheyWereRead(t *testing.T) {
	for size := 1; size <= 10; size++ {
		for n := range 1 << size {
			digits := strconv.FormatInt(int64(n), 2)
			s := strings.Repeat("0", size-len(digits)) + digits
			got, is := Num(s)
			if !is || got != n || Bits(got, size) != s {
				t.Errorf("Num(%q) = %d, %v; Bits of it %q", s, got, is, Bits(got, size))
			}
		}
	}
}

func TestP103NothingIsReadOfOtherSizes(t *testing.T) {
	for _, size := range []int{math.MinInt, -1, 0, 63, 64, math.MaxInt} {
		if got, is := Num(Bits(5, size)); is || got != 0 {
			t.Errorf("Num(Bits(5, %d)) = %d, %v, want 0, false", size, got, is)
		}
	}
}

// inside tells whether a text lies in another one's memory.
func inside(part, whole string) bool {
	if len(part) == 0 || len(whole) == 0 {
		return false
	}
	p, w := uintptr(unsafe.Pointer(unsafe.StringData(part))), uintptr(unsafe.Pointer(unsafe.StringData(whole)))
	return p >= w && p < w+uintptr(len(whole))
}

func TestP2AnswersAreNewMemory(t *testing.T) {
	s := strings.Repeat("01", 40) + "#"
	for name, got := range map[string]string{
		"Clean":           Clean(s),
		"Common":          Common(s, s),
		"Turn":            Turn(s, 3),
		"Turn at none":    Turn(s, -1),
		"Turn behind all": Turn(s, len(s)),
	} {
		if inside(got, s) {
			t.Errorf("%s answers memory of its argument", name)
		}
	}
}

func FuzzTexts(f *testing.F) {
	f.Add("01x1", "01#", 1)
	f.Add("é", "è", -1)
	f.Fuzz(func(t *testing.T, a, b string, at int) {
		c := Clean(a)
		if !isStream(c) || !Front(c, a) || Clean(c) != c {
			t.Errorf("Clean(%q) = %q", a, c)
		}
		if len(c) < len(a) && isStream(a[:len(c)+1]) {
			t.Errorf("Clean(%q) = %q, too short", a, c)
		}
		both := Common(a, b)
		if !Front(both, a) || !Front(both, b) || len(both) < len(a) && len(both) < len(b) && a[len(both)] == b[len(both)] {
			t.Errorf("Common(%q, %q) = %q", a, b, both)
		}
		if Front(a, b) != (both == a) {
			t.Errorf("Front(%q, %q) = %v", a, b, Front(a, b))
		}
		if Whole(a) != (c == a && strings.HasSuffix(a, "#")) {
			t.Errorf("Whole(%q) = %v", a, Whole(a))
		}
		if turned := Turn(a, at); len(turned) != len(a) {
			t.Errorf("Turn(%q, %d) = %q", a, at, turned)
		}
		if n, is := Num(a); is && Bits(n, len(a)) != a {
			t.Errorf("Num(%q) = %d", a, n)
		}
	})
}

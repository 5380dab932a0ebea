package lane

import (
	"strings"
	"testing"
	"unsafe"

	"plaiting/sym"
)

// feed answers what a lane sends as two texts come in byte by byte, the links idle behind their ends.
func feed(l *Lane, direct, skip string) string {
	var out []byte
	for i := range max(len(direct), len(skip)) {
		out = append(out, l.Step(byteAt(direct, i), byteAt(skip, i)))
	}
	return string(out)
}

func byteAt(s string, i int) byte {
	if i < len(s) {
		return s[i]
	}
	return '.'
}

// want says P701's Step in its own words, apart from the package's: the answer to the last of all that came in.
func want(compare bool, direct, skip string) byte {
	for i := range len(direct) {
		if !strings.Contains("01#", direct[i:i+1]) || compare && skip[i] != direct[i] {
			return '.'
		}
		if i > 0 && direct[i-1] == '#' {
			return '.'
		}
	}
	return direct[len(direct)-1]
}

// isStream says W1 in its own words.
func isStream(s string) bool {
	return strings.Trim(strings.TrimSuffix(s, "#"), "01") == ""
}

// wantOut says P702 in its own words: of all fronts that are streams, and with compare are skip's too, the longest one.
func wantOut(compare bool, direct, skip string) string {
	longest := ""
	for n := range len(direct) + 1 {
		front := direct[:n]
		if isStream(front) && (!compare || strings.HasPrefix(skip, front)) {
			longest = front
		}
	}
	return longest
}

// shortTexts are all texts of at most three pieces: symbols, bytes that are none, and runes whose number or last byte looks like a symbol's.
func shortTexts() []string {
	pieces := []string{"0", "1", "#", ".", "x", "\x00", "\xff", "\xb0", "\u00b0", "\u0130"}
	all := []string{""}
	last := all
	for range 3 {
		var next []string
		for _, s := range last {
			for _, p := range pieces {
				next = append(next, s+p)
			}
		}
		all = append(all, next...)
		last = next
	}
	return all
}

var modes = [...]bool{false, true}

func TestP701Step(t *testing.T) {
	for _, x := range []struct {
		compare            bool
		direct, skip, want string
	}{
		{false, "0", "0", "0"},
		{false, "0", "1", "0"},
		{false, "1", ".", "1"},
		{false, "#", "x", "#"},
		{false, ".", "0", "."},
		{false, "0110#", "1001.", "0110#"},
		{false, "0110#", ".....", "0110#"},
		{false, "01.01#", "010101", "01...."}, // idle for one symbol, and comes again
		{false, ".01#", "001#", "...."},
		{false, "01x01", "01001", "01..."},
		{false, "01#01#", "01#01#", "01#..."},
		{false, "##", "##", "#."},
		{false, "#0", "#0", "#."},
		{false, "#.0", "#.0", "#.."},
		{true, "0", "0", "0"},
		{true, "1", "1", "1"},
		{true, "#", "#", "#"},
		{true, "0", "1", "."},
		{true, "1", "#", "."},
		{true, "#", "0", "."},
		{true, ".", ".", "."}, // the same, but no symbol
		{true, "x", "x", "."},
		{true, "0110#", "0110#", "0110#"},
		{true, "01101", "01001", "01..."}, // the same ones again behind two that were not
		{true, "0110#", "1110#", "....."},
		{true, "011#", "01##", "01.."},
		{true, "01.01#", "01.01#", "01...."},
		{true, "01.01#", "010101", "01...."},
		{true, "01001#", "01.01#", "01...."}, // the far link alone is idle for one symbol
		{true, "01x01", "01x01", "01..."},
		{true, "01#01#", "01#01#", "01#..."},
		{true, "01#0", "01#1", "01#."},
		{true, "01#0", "01..", "01.."},
		{true, "01..", "01#0", "01.."},
	} {
		if got := feed(New(x.compare), x.direct, x.skip); got != x.want {
			t.Errorf("%v: steps of %q, %q = %q, want %q", x.compare, x.direct, x.skip, got, x.want)
		}
	}
}

// Each byte on either link, at first and behind some symbols, and whether the lane goes on behind it.
func TestP701StepOfEachByte(t *testing.T) {
	for _, compare := range modes {
		for _, front := range []string{"", "0", "01", "01#"} {
			for b := range 256 * 256 {
				direct, skip := byte(b>>8), byte(b)
				l := New(compare)
				feed(l, front, front)
				d, s := front+string([]byte{direct}), front+string([]byte{skip})
				if got, w := l.Step(direct, skip), want(compare, d, s); got != w {
					t.Fatalf("%v: behind %q, Step(%q, %q) = %q, want %q", compare, front, direct, skip, got, w)
				}
				for _, next := range "1#0" {
					d, s = d+string(next), s+string(next)
					if got, w := l.Step(byte(next), byte(next)), want(compare, d, s); got != w {
						t.Fatalf("%v: of %q, %q the last step = %q, want %q", compare, d, s, got, w)
					}
				}
			}
		}
	}
}

func TestP701WithoutCompareTheFarLinkIsNothing(t *testing.T) {
	for b := range 256 {
		for _, direct := range []string{"0", "1", "#", "01", "0110#"} {
			skip := strings.Repeat(string([]byte{byte(b)}), len(direct))
			if got := feed(New(false), direct, skip); got != direct {
				t.Errorf("steps of %q, %q = %q", direct, skip, got)
			}
		}
	}
}

func TestP701StepsOfShortTexts(t *testing.T) {
	all := shortTexts()
	for _, compare := range modes {
		for _, direct := range all {
			for _, skip := range all {
				n := max(len(direct), len(skip))
				out := wantOut(compare, direct, skip)
				out += strings.Repeat(".", n-len(out))
				if got := feed(New(compare), direct, skip); got != out {
					t.Fatalf("%v: steps of %q, %q = %q, want %q", compare, direct, skip, got, out)
				}
			}
		}
	}
}

// A lane that is over stays so, by whatever it ended and whatever comes.
func TestP701OverIsOver(t *testing.T) {
	ends := []struct {
		compare      bool
		direct, skip string
	}{
		{false, "01.", "010"},
		{false, "01x", "010"},
		{false, "01\xb0", "010"},
		{false, "01#", "010"},
		{false, ".", "."},
		{false, "#", "."},
		{true, "01.", "01."},
		{true, "01.", "010"},
		{true, "010", "01."},
		{true, "010", "011"},
		{true, "010", "01#"},
		{true, "01#", "01#"},
		{true, "01x", "01x"},
		{true, "01\xff", "01\xff"},
		{true, "0", "1"},
		{true, "#", "#"},
	}
	for _, x := range ends {
		l := New(x.compare)
		feed(l, x.direct, x.skip)
		for i := range 3000 {
			same := "01#.x\xff"[i%6]
			if got := l.Step(same, same); got != '.' {
				t.Fatalf("%v: %d steps behind %q, %q: %q", x.compare, i, x.direct, x.skip, got)
			}
		}
		for b := range 256 * 256 {
			if got := l.Step(byte(b>>8), byte(b)); got != '.' {
				t.Fatalf("%v: long behind %q, %q, Step(%q, %q) = %q", x.compare, x.direct, x.skip, byte(b>>8), byte(b), got)
			}
		}
	}
}

func TestP701LongStreams(t *testing.T) {
	for _, compare := range modes {
		l := New(compare)
		for i := range 1 << 18 {
			b := "0110100"[i%7]
			if got := l.Step(b, b); got != b {
				t.Fatalf("%v: step %d = %q, want %q", compare, i, got, b)
			}
		}
		if got := feed(l, "#01", "#01"); got != "#.." {
			t.Errorf("%v: at the end of a long stream: %q", compare, got)
		}
	}
}

func TestP701Out(t *testing.T) {
	long := strings.Repeat("0110", 1<<16)
	for _, x := range []struct {
		compare            bool
		direct, skip, want string
	}{
		{true, "01", "00", "0"},
		{false, "01", "00", "01"},
		{false, "", "", ""},
		{true, "", "", ""},
		{false, "", "01#", ""},
		{true, "", "01#", ""},
		{false, "01#", "", "01#"},
		{true, "01#", "", ""},
		{true, "01", "0110", "01"}, // one a front of the other one
		{true, "0110", "01", "01"},
		{false, "01", "0110", "01"},
		{false, "0110", "01", "0110"},
		{true, "01#", "01#", "01#"},
		{true, "01", "01#", "01"},
		{true, "01#", "01", "01"},
		{true, "01#", "010", "01"},
		{true, "010", "01#", "01"},
		{true, "01#", "01#01", "01#"},
		{true, "01#01", "01#", "01#"},
		{true, "01#01", "01#01", "01#"},
		{false, "01#01", "", "01#"},
		{false, "##", "", "#"},
		{true, "##", "##", "#"},
		{true, "01101", "01001", "01"},
		{true, "1101", "0101", ""},
		{false, "01.01#", "010001", "01"},
		{true, "01.01#", "01.01#", "01"},
		{true, "01001#", "01.01#", "01"},
		{false, ".01", "", ""},
		{true, ".01", ".01", ""},
		{true, "01.", "01", "01"}, // idle either way
		{true, "01", "01.", "01"},
		{true, "01x01", "01x01", "01"},
		{true, "01y", "01x", "01"},
		{false, "x01", "", ""},
		{false, "01\x000", "", "01"},
		{false, "1\xff0", "", "1"},
		{true, "1\xff0", "1\xff0", "1"},
		{true, "1\xff0", "1\xfe0", "1"},
		{true, "1\xff", "1\ufffd", "1"}, // both are read as the same rune
		{false, "\xb00", "", ""},        // a symbol, its eighth bit set
		{true, "0\xb0", "00", "0"},
		{true, "00", "0\xb0", "0"},
		{true, "00", "0\u00b0", "0"},
		{true, "\u00b0", "\xb0", ""}, // a rune, and the byte of its number
		{true, "0\u0130", "00", "0"}, // the low byte of this rune's number is that of `0`
		{true, "00", "0\u0130", "0"},
		{false, "0\u01301", "", "0"},
		{false, "1０0", "", "1"},
		{true, "01é", "01é", "01"},
		{true, "01\xc3", "01é", "01"}, // a rune that is cut
		{false, "01\xe2\x82" + "01#", "", "01"},
		{false, long, "", long},
		{true, long, long, long},
		{true, long + "#", long + "#", long + "#"},
		{true, long + "#", long + "1", long},
		{true, long, long[:1<<17], long[:1<<17]},
		{true, long[:1<<17], long, long[:1<<17]},
		{false, long + "#" + long, "", long + "#"},
	} {
		if got := Out(x.compare, x.direct, x.skip); got != x.want {
			t.Errorf("Out(%v, %.40q, %.40q) = %.40q, want %.40q", x.compare, x.direct, x.skip, got, x.want)
		}
	}
}

func TestP701OutIsWhatSteps(t *testing.T) {
	all := shortTexts()
	for _, compare := range modes {
		for _, direct := range all {
			for _, skip := range all {
				stepped, _, _ := strings.Cut(feed(New(compare), direct, skip), ".")
				if got := Out(compare, direct, skip); got != stepped {
					t.Fatalf("Out(%v, %q, %q) = %q, steps say %q", compare, direct, skip, got, stepped)
				}
			}
		}
	}
}

func TestP702TheLongestFrontOfBoth(t *testing.T) {
	all := shortTexts()
	for _, direct := range all {
		if got := Out(true, direct, direct); got != sym.Clean(direct) {
			t.Errorf("Out(true) of twice %q = %q", direct, got)
		}
		for _, skip := range all {
			got := Out(true, direct, skip)
			if want := wantOut(true, direct, skip); got != want {
				t.Fatalf("Out(true, %q, %q) = %q, want %q", direct, skip, got, want)
			}
			if want := sym.Common(sym.Clean(direct), sym.Clean(skip)); got != want {
				t.Fatalf("Out(true, %q, %q) = %q, layer 1 says %q", direct, skip, got, want)
			}
			if turned := Out(true, skip, direct); got != turned {
				t.Fatalf("Out(true, %q, %q) = %q, the other way %q", direct, skip, got, turned)
			}
		}
	}
}

func TestP702TheDirectStream(t *testing.T) {
	all := shortTexts()
	for _, direct := range all {
		for _, skip := range all {
			got := Out(false, direct, skip)
			if want := wantOut(false, direct, skip); got != want {
				t.Fatalf("Out(false, %q, %q) = %q, want %q", direct, skip, got, want)
			}
			if want := sym.Clean(direct); got != want {
				t.Fatalf("Out(false, %q, %q) = %q, layer 1 says %q", direct, skip, got, want)
			}
		}
	}
}

// Where two streams part, at each place of a longer one, with each byte there on either link.
func TestP702WhereTheyPart(t *testing.T) {
	stream := "01101001#"
	for at := range stream {
		for b := range 256 {
			other := stream[:at] + string([]byte{byte(b)}) + stream[at+1:]
			for _, x := range [][2]string{{stream, other}, {other, stream}, {other, other}} {
				for _, compare := range modes {
					if got, want := Out(compare, x[0], x[1]), wantOut(compare, x[0], x[1]); got != want {
						t.Errorf("Out(%v, %q, %q) = %q, want %q", compare, x[0], x[1], got, want)
					}
				}
			}
		}
	}
}

func TestP2OutIsNewMemory(t *testing.T) {
	s := strings.Repeat("01", 40) + "#"
	for _, compare := range modes {
		for _, direct := range []string{s, s + "01", s[:len(s)-1]} {
			if got := Out(compare, direct, s); inside(got, direct) || inside(got, s) {
				t.Errorf("Out(%v) answers memory of its argument", compare)
			}
		}
	}
}

// inside tells whether a text lies in another one's memory.
func inside(part, whole string) bool {
	p, w := uintptr(unsafe.Pointer(unsafe.StringData(part))), uintptr(unsafe.Pointer(unsafe.StringData(whole)))
	return p >= w && p < w+uintptr(len(whole))
}

func TestP3TheSameAgain(t *testing.T) {
	for _, compare := range modes {
		for _, direct := range shortTexts() {
			skip := direct + "0"
			first, firstOut := feed(New(compare), direct, skip), Out(compare, direct, skip)
			again, againOut := feed(New(compare), direct, skip), Out(compare, direct, skip)
			if first != again || firstOut != againOut {
				t.Errorf("%v: %q: %q, then %q; %q, then %q", compare, direct, first, again, firstOut, againOut)
			}
		}
	}
}

func TestP7LanesSideBySide(t *testing.T) {
	type run struct {
		compare            bool
		direct, skip, want string
		lane               *Lane
		got                []byte
	}
	runs := []*run{
		{compare: false, direct: "0110#", skip: ".....", want: "0110#"},
		{compare: true, direct: "0110#", skip: "0110#", want: "0110#"},
		{compare: true, direct: "0110#", skip: "0100#", want: "01..."},
		{compare: false, direct: ".110#", skip: "0110#", want: "....."},
		{compare: true, direct: "#110#", skip: "#110#", want: "#...."},
		{compare: true, direct: "0110#", skip: "x110#", want: "....."},
		{compare: true, direct: "1001#", skip: "1001#", want: "1001#"},
		{compare: false, direct: "100x#", skip: "1001#", want: "100.."},
	}
	for _, r := range runs {
		r.lane = New(r.compare)
	}
	for i := range 5 {
		for k := range runs {
			// Whoever is asked first, and whatever texts go out meanwhile, tells nothing.
			r := runs[(k*3+i)%len(runs)]
			Out(!r.compare, "01#", "00#")
			r.got = append(r.got, r.lane.Step(r.direct[i], r.skip[i]))
		}
	}
	for _, r := range runs {
		if string(r.got) != r.want {
			t.Errorf("%v: %q, %q among others: %q, want %q", r.compare, r.direct, r.skip, r.got, r.want)
		}
	}
}

func TestP7ANewLaneIsNobodyElses(t *testing.T) {
	for _, compare := range modes {
		over := New(compare)
		feed(over, "#", "#")
		if got := feed(New(compare), "01#", "01#"); got != "01#" {
			t.Errorf("%v: a new lane beside one that is over: %q", compare, got)
		}
		if got := over.Step('0', '0'); got != '.' {
			t.Errorf("%v: a lane that is over, beside a new one: %q", compare, got)
		}
	}
}

func FuzzOut(f *testing.F) {
	f.Add("01", "00")
	f.Add("01#1", "01#")
	f.Add("0\xb0", "0\u00b0")
	f.Add("01.1", "01.1")
	f.Fuzz(func(t *testing.T, direct, skip string) {
		for _, compare := range modes {
			got := Out(compare, direct, skip)
			want := sym.Clean(direct)
			if compare {
				want = sym.Common(want, sym.Clean(skip))
			}
			if got != want {
				t.Errorf("Out(%v, %q, %q) = %q, want %q", compare, direct, skip, got, want)
			}
			stepped := feed(New(compare), direct, skip)
			if rest := len(stepped) - len(got); stepped != got+strings.Repeat(".", rest) {
				t.Errorf("%v: steps of %q, %q = %q, Out %q", compare, direct, skip, stepped, got)
			}
		}
	})
}

package crc

import (
	"strings"
	"testing"
	"unsafe"

	"plaiting/api"
	"plaiting/sym"
)

const most = 1 << 16 // the longest texts of which the chapter speaks

// shortBits are all texts of at most that many bits.
func shortBits(longest int) []string {
	all := []string{""}
	for size := 1; size <= longest; size++ {
		for n := range 1 << size {
			all = append(all, sym.Bits(n, size))
		}
	}
	return all
}

// someBits are that many bits without a plain pattern.
func someBits(count int) string {
	var b strings.Builder
	x := uint32(12345)
	for range count {
		x = x*1664525 + 1013904223
		b.WriteByte('0' + byte(x>>31))
	}
	return b.String()
}

// bytesAsBits writes the bytes of a text, the highest bit of each first.
func bytesAsBits(s string) string {
	var b strings.Builder
	for i := range len(s) {
		b.WriteString(sym.Bits(int(s[i]), 8))
	}
	return b.String()
}

// remainder is the sum said in another way than the package's: with sixteen zeros behind and its first sixteen bits turned, what is left of the text by long division by 0x11021.
func remainder(bits string) int {
	row := []byte(bits + strings.Repeat("0", 16))
	for i := range 16 {
		row[i] ^= 1
	}
	for i := range len(bits) {
		if row[i] == '0' {
			continue
		}
		for _, k := range []int{0, 4, 11, 16} {
			row[i+k] ^= 1
		}
	}
	n := 0
	for _, b := range row[len(bits):] {
		n = n<<1 | int(b-'0')
	}
	return n
}

func TestP201Sum(t *testing.T) {
	for _, x := range []struct {
		bits string
		want int
	}{
		{"", 65535},
		{"1", 0xfffe},
		{"0", 0xfffe ^ 0x1021},
		{"11", 0xfffc},
		{"10", 0xfffc ^ 0x1021},
		{strings.Repeat("1", 16), 0},       // all ones have gone out, nothing was laid over
		{strings.Repeat("1", 16) + "0", 0}, // of no bits that are set a zero leaves none
		{strings.Repeat("1", 16) + "1", 0x1021},
		{strings.Repeat("1", 16) + "10", 0x2042},
		{strings.Repeat("1", 16) + "100", 0x4084},
		{strings.Repeat("1", 16) + "1000", 0x8108},
		{strings.Repeat("1", 16) + "10000", 0x1231}, // the highest goes out and is no zero
		{strings.Repeat("1", 16) + "10001", 0x0210}, // there it is the bit
		{bytesAsBits("123456789"), 0x29b1},          // the usual text by which such sums are told apart
		{bytesAsBits("A"), 0xb915},
		{bytesAsBits(strings.Repeat("A", 256)), 0xea0b},
	} {
		if got := Sum(x.bits); got != x.want {
			t.Errorf("Sum(%.60q) = %#x, want %#x", x.bits, got, x.want)
		}
	}
}

func TestP201SumIsARemainder(t *testing.T) {
	for _, bits := range append(shortBits(12), someBits(15), someBits(16), someBits(17), someBits(1000), someBits(most), someBits(most+1)) {
		if got, want := Sum(bits), remainder(bits); got != want {
			t.Errorf("Sum of %d bits %.60q = %#x, want %#x", len(bits), bits, got, want)
		}
	}
}

func TestP201Wrap(t *testing.T) {
	for _, x := range []struct{ bits, want string }{
		{"", "1111111111111111#"},
		{"1", "1" + "1111111111111110" + "#"},
		{"0", "0" + "1110111111011111" + "#"},
		{strings.Repeat("1", 16), strings.Repeat("1", 16) + "0000000000000000" + "#"},
		{strings.Repeat("1", 17), strings.Repeat("1", 17) + "0001000000100001" + "#"},
		{bytesAsBits("123456789"), bytesAsBits("123456789") + "0010100110110001" + "#"},
	} {
		if got := Wrap(x.bits); got != x.want {
			t.Errorf("Wrap(%q) = %q, want %q", x.bits, got, x.want)
		}
	}
	for _, bits := range append(shortBits(8), someBits(500), someBits(most-17), someBits(most+1)) {
		if got, want := Wrap(bits), bits+sym.Bits(remainder(bits), 16)+"#"; got != want {
			t.Errorf("Wrap of %d bits %.60q is another one", len(bits), bits)
		}
	}
}

func TestP201Open(t *testing.T) {
	ones := func(n int) string { return strings.Repeat("1", n) }
	for _, x := range []struct{ s, want string }{
		{"1111111111111111#", ""},
		{"11111111111111110#", "1"},
		{"01110111111011111#", "0"},
		{ones(16) + "0000000000000000#", ones(16)},
		{ones(17) + "0001000000100001#", ones(17)},
		{bytesAsBits("123456789") + "0010100110110001#", bytesAsBits("123456789")},
		{Wrap("1101")[:20] + "0#", "11011"}, // one zero more may stand for other bits: nothing was laid over at the last one
	} {
		if got, e := Open(x.s); got != x.want || e != api.OK {
			t.Errorf("Open(%q) = %q, %v, want %q", x.s, got, e, x.want)
		}
	}
}

func TestP201OpenRefuses(t *testing.T) {
	ones, zeros := strings.Repeat("1", 16), strings.Repeat("0", 16)
	good := Wrap("1101")
	bare := good[:len(good)-1]
	for _, x := range []struct {
		s    string
		want api.Errno
	}{
		{"", api.ErrTail},
		{"0", api.ErrTail},
		{ones, api.ErrTail},
		{bare, api.ErrTail},
		{bare + "0", api.ErrTail},
		{good + "#", api.ErrTail},
		{good + "0", api.ErrTail},
		{good + "x", api.ErrTail},
		{good + "\n", api.ErrTail},
		{good + good, api.ErrTail},
		{"#" + good, api.ErrTail},
		{"x" + good, api.ErrTail},
		{" " + good, api.ErrTail},
		{bare + "x#", api.ErrTail},
		{bare + "＃", api.ErrTail}, // a number sign, but not the symbol
		{bare[:5] + "#" + bare[6:] + "#", api.ErrTail},
		{bare[:5] + "2" + bare[6:] + "#", api.ErrTail},
		{bare[:5] + "\x00" + bare[6:] + "#", api.ErrTail},
		{bare[:5] + "\xff" + bare[6:] + "#", api.ErrTail},
		{bare[:5] + "\xb1" + bare[6:] + "#", api.ErrTail}, // a symbol, its eighth bit set
		{bare[:5] + "é" + bare[6:] + "#", api.ErrTail},
		{bare[:5] + "１" + bare[6:] + "#", api.ErrTail},
		{ones[:15] + "x#", api.ErrTail},

		{"#", api.ErrCut},
		{"0#", api.ErrCut},
		{"1#", api.ErrCut},
		{ones[:15] + "#", api.ErrCut},
		{zeros[:15] + "#", api.ErrCut},

		{zeros + "#", api.ErrSum},
		{ones[:15] + "0#", api.ErrSum},
		{"0" + ones[:15] + "#", api.ErrSum},
		{ones + "1#", api.ErrSum},
		{"0" + ones + "#", api.ErrSum},
		{good[1:], api.ErrSum},
		{"0" + good, api.ErrSum},
		{bare + "1#", api.ErrSum},
		{"0" + "111011111101111#", api.ErrSum}, // the sum of `0`, its last bit gone
	} {
		if got, e := Open(x.s); got != "" || e != x.want {
			t.Errorf("Open(%q) = %q, %v, want nothing, %v", x.s, got, e, x.want)
		}
	}
}

// Each has two errors or all three; the promise names ErrTail ahead of ErrCut, and that ahead of ErrSum.
func TestP201OpenNamesTheFirstError(t *testing.T) {
	zeros := strings.Repeat("0", 16)
	for _, x := range []struct {
		s    string
		want api.Errno
	}{
		{"x#", api.ErrTail},
		{"##", api.ErrTail},
		{"#0", api.ErrTail},
		{zeros[:15], api.ErrTail},
		{zeros[:14] + "x#", api.ErrTail},
		{zeros, api.ErrTail},
		{zeros + "##", api.ErrTail},
		{zeros + "x#", api.ErrTail},
		{"x" + zeros + "#", api.ErrTail},
		{"é" + zeros[:13] + "#", api.ErrTail},
		{zeros[:15] + "#", api.ErrCut},
	} {
		if got, e := Open(x.s); got != "" || e != x.want {
			t.Errorf("Open(%q) = %q, %v, want nothing, %v", x.s, got, e, x.want)
		}
	}
}

func TestP201OpenOfAnyLastBits(t *testing.T) {
	for _, bits := range []string{"", "0", "1101", someBits(100)} {
		for n := range 1 << 16 {
			want, wantErr := "", api.ErrSum
			if n == remainder(bits) {
				want, wantErr = bits, api.OK
			}
			if got, e := Open(bits + sym.Bits(n, 16) + "#"); got != want || e != wantErr {
				t.Errorf("Open of %.20q with %#x: %q, %v, want %v", bits, n, got, e, wantErr)
			}
		}
	}
}

func TestP201OpenLong(t *testing.T) {
	bits := someBits(most - 17)
	s := Wrap(bits)
	if len(s) != most {
		t.Fatalf("Wrap of %d bits has %d symbols", len(bits), len(s))
	}
	if got, e := Open(s); got != bits || e != api.OK {
		t.Errorf("Open of %d symbols: %d bits, %v", len(s), len(got), e)
	}
	for _, x := range []struct {
		s    string
		want api.Errno
	}{
		{s[:most-1] + "0", api.ErrTail},
		{"x" + s[1:], api.ErrTail},
		{s[:most/2] + "#" + s[most/2+1:], api.ErrTail},
		{s[1:], api.ErrSum},
	} {
		if got, e := Open(x.s); got != "" || e != x.want {
			t.Errorf("Open of %d symbols: %d bits, %v, want %v", len(x.s), len(got), e, x.want)
		}
	}
}

func TestP202WhatWasWrappedIsOpened(t *testing.T) {
	for _, bits := range append(shortBits(12), someBits(15), someBits(16), someBits(17), someBits(4000), strings.Repeat("0", 4000), strings.Repeat("1", 4000)) {
		if got, e := Open(Wrap(bits)); got != bits || e != api.OK {
			t.Errorf("Open(Wrap(%.60q)) = %.60q, %v", bits, got, e)
		}
		if got, e := Open(Wrap(Wrap(bits)[:len(bits)+16])); got != Wrap(bits)[:len(bits)+16] || e != api.OK {
			t.Errorf("%.60q, wrapped twice, is not opened as it was: %v", bits, e)
		}
	}
}

func refusesTurned(t *testing.T, wrapped string, at int) {
	t.Helper()
	if got, e := Open(sym.Turn(wrapped, at)); got != "" || e != api.ErrSum {
		t.Errorf("Open of %.60q, bit %d another one: %.60q, %v, want nothing, sum", wrapped, at, got, e)
	}
}

func TestP202OneBitIsAnotherOne(t *testing.T) {
	for _, bits := range append(shortBits(8), someBits(15), someBits(16), someBits(17), someBits(600), strings.Repeat("0", 600), strings.Repeat("1", 600)) {
		wrapped := Wrap(bits)
		for at := range len(wrapped) - 1 {
			refusesTurned(t, wrapped, at)
		}
	}
}

// The sum comes round again behind 32767 bits: so far from one another two turned bits hide each other, but one alone never hides.
func TestP202OneBitOfALongTextIsAnotherOne(t *testing.T) {
	const round = 1<<15 - 1
	wrapped := Wrap(someBits(most - 17))
	for _, at := range []int{0, 1, 15, 16, 17, round - 1, round, round + 1, most - 1 - round, 2 * round, most - 18, most - 17, most - 3, most - 2} {
		refusesTurned(t, wrapped, at)
	}
}

func TestP202TheTailIsAnotherOne(t *testing.T) {
	for _, bits := range append(shortBits(4), someBits(600)) {
		wrapped := Wrap(bits)
		if got, e := Open(sym.Turn(wrapped, len(wrapped)-1)); got != "" || e != api.ErrTail {
			t.Errorf("Open of %.60q with a bit for its tail: %.60q, %v, want nothing, tail", wrapped, got, e)
		}
	}
}

// inside tells whether a text lies in another one's memory.
func inside(part, whole string) bool {
	if len(part) == 0 || len(whole) == 0 {
		return false
	}
	p, w := uintptr(unsafe.Pointer(unsafe.StringData(part))), uintptr(unsafe.Pointer(unsafe.StringData(whole)))
	return p >= w && p < w+uintptr(len(whole))
}

func TestP2AnswersAreNewMemory(t *testing.T) {
	bits := someBits(80)
	wrapped := Wrap(bits)
	if inside(wrapped, bits) || inside(bits, wrapped) {
		t.Error("Wrap answers memory of its argument")
	}
	if opened, e := Open(wrapped); e != api.OK || inside(opened, wrapped) {
		t.Errorf("Open answers memory of its argument, or %v", e)
	}
}

func TestP1TextsThatAreNoBits(t *testing.T) {
	for _, s := range []string{"x", "#", "01#", "\x00", "\xff", "é", "1\xc3", "\U0010ffff", strings.Repeat("\xff", most)} {
		if n := Sum(s); n < 0 || n > 0xffff || n != Sum(s) {
			t.Errorf("Sum(%.20q) = %#x, not sixteen bits or not the same twice", s, n)
		}
		if got, e := Open(Wrap(s)); got != "" || e != api.ErrTail {
			t.Errorf("Open(Wrap(%.20q)) = %.20q, %v, want nothing, tail", s, got, e)
		}
	}
}

func FuzzOpen(f *testing.F) {
	f.Add("")
	f.Add("1111111111111111#")
	f.Add("01x#")
	f.Fuzz(func(t *testing.T, s string) {
		bits, e := Open(s)
		head, isWhole := strings.CutSuffix(s, "#")
		isWhole = isWhole && strings.Trim(head, "01") == ""
		want := api.OK
		switch {
		case !isWhole:
			want = api.ErrTail
		case len(head) < 16:
			want = api.ErrCut
		case head[len(head)-16:] != sym.Bits(remainder(head[:len(head)-16]), 16):
			want = api.ErrSum
		}
		if e != want || e != api.OK && bits != "" || e == api.OK && Wrap(bits) != s {
			t.Errorf("Open(%q) = %q, %v, want %v", s, bits, e, want)
		}
	})
}

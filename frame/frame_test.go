package frame

import (
	"fmt"
	"math"
	"slices"
	"strings"
	"testing"

	"plaiting/api"
	"plaiting/crc"
)

var (
	none = api.Item{Kind: api.INone}
	null = api.Item{Kind: api.INull}
)

func val(v int) api.Item {
	return api.Item{Kind: api.IVal, V: v}
}

// network is one of n nodes with some pairs.
func network(n int, pairs ...int) api.Conf {
	return api.Conf{N: n, Pi: 100, E: 2, G: 2, Pairs: pairs}
}

// networks are of every size, with no pairs and with as many as there may be.
func networks() []api.Conf {
	var all []api.Conf
	for n := api.MinNodes; n <= api.MaxNodes; n++ {
		for size := range api.MaxPairs + 1 {
			all = append(all, network(n, []int{n - 1, -1, 2}[:size]...))
		}
	}
	return all
}

// echo is so many items: nothing, the null frame and values, by turns.
func echo(size int) []api.Item {
	items := make([]api.Item, size)
	for i := range items {
		items[i] = []api.Item{none, null, val(0), val(255), val(i)}[i%5]
	}
	return items
}

// with is a copy of the items, one of them another one.
func with(items []api.Item, at int, i api.Item) []api.Item {
	items = slices.Clone(items)
	items[at] = i
	return items
}

func checkIs(t *testing.T, c api.Conf, f api.Frame, want api.Errno) {
	t.Helper()
	if got := Check(c, f); got != want {
		t.Errorf("Check(%v, %v) = %v, want %v", c, f, got, want)
	}
}

func textIs(t *testing.T, c api.Conf, f api.Frame, bits string) {
	t.Helper()
	want := crc.Wrap(strings.ReplaceAll(bits, " ", ""))
	if got := Text(c, f); got != want {
		t.Errorf("Text(%v, %v) = %s, want %s", c, f, got, want)
	}
}

func equal(a, b api.Frame) bool {
	return fmt.Sprint(a) == fmt.Sprint(b)
}

func readIs(t *testing.T, c api.Conf, s string, want api.Frame, wantErr api.Errno) {
	t.Helper()
	got, e := Read(c, s)
	if e != wantErr || !equal(got, want) {
		t.Errorf("Read(%v, %s) = %v, %v, want %v, %v", c, s, got, e, want, wantErr)
	}
}

// refused asks for an error and the zero frame beside it.
func refused(t *testing.T, c api.Conf, s string, want api.Errno) {
	t.Helper()
	readIs(t, c, s, api.Frame{}, want)
}

// wrapped is a text whose sum is right, whatever its bits mean.
func wrapped(parts ...string) string {
	return crc.Wrap(strings.ReplaceAll(strings.Join(parts, ""), " ", ""))
}

func TestP501Allowed(t *testing.T) {
	bare, paired := network(6), network(12, 11, -1, 0)
	for _, x := range []struct {
		c api.Conf
		f api.Frame
	}{
		{bare, api.Frame{Kind: api.KCold}},
		{bare, api.Frame{Kind: api.KSync}},
		{bare, api.Frame{Kind: api.KCold, Slot: 5, Round: 65535}},
		{bare, api.Frame{Kind: api.KSync, Slot: 5, Round: 65535, Echo: []api.Item{}}},
		{bare, api.Frame{Kind: api.KData, Pay: null, Echo: echo(6)}},
		{bare, api.Frame{Kind: api.KData, Slot: 5, Pay: val(0), Echo: echo(6)}},
		{bare, api.Frame{Kind: api.KData, Slot: 3, Round: 65535, Pay: val(255), Echo: make([]api.Item, 6)}},
		{paired, api.Frame{Kind: api.KCold, Slot: 11, Round: 1}},
		{paired, api.Frame{Kind: api.KSync, Slot: 11, Round: 65534}},
		{paired, api.Frame{Kind: api.KData, Slot: 11, Pay: val(1), Echo: echo(15)}},
		{paired, api.Frame{Kind: api.KData, Slot: 12, Pay: null}},
		{paired, api.Frame{Kind: api.KData, Slot: 13, Pay: val(0), Echo: []api.Item{}}},
		{paired, api.Frame{Kind: api.KData, Slot: 14, Round: 65535, Pay: val(255)}},
	} {
		checkIs(t, x.c, x.f, api.OK)
	}
}

func TestP501Slot(t *testing.T) {
	for _, c := range networks() {
		slots := c.N + len(c.Pairs)
		for _, slot := range []int{math.MinInt, math.MinInt32, -64, -1, slots, slots + 1, 63, 64, 1 << 32, math.MaxInt} {
			checkIs(t, c, api.Frame{Kind: api.KCold, Slot: slot}, api.ErrArg)
			checkIs(t, c, api.Frame{Kind: api.KData, Slot: slot, Pay: null}, api.ErrArg)
			checkIs(t, c, api.Frame{Kind: api.KData, Slot: slot, Pay: null, Echo: echo(slots)}, api.ErrArg)
		}
		for slot := range slots {
			f := api.Frame{Kind: api.KData, Slot: slot, Pay: null}
			if slot < c.N {
				f.Echo = echo(slots)
			}
			checkIs(t, c, f, api.OK)
		}
	}
}

func TestP501Round(t *testing.T) {
	c := network(7, 3)
	for _, round := range []int{math.MinInt, -65536, -1, 65536, 65537, 1 << 17, 1 << 32, math.MaxInt} {
		checkIs(t, c, api.Frame{Kind: api.KSync, Round: round}, api.ErrArg)
		checkIs(t, c, api.Frame{Kind: api.KData, Slot: 7, Round: round, Pay: null}, api.ErrArg)
	}
	for _, round := range []int{0, 1, 32767, 32768, 65534, 65535} {
		checkIs(t, c, api.Frame{Kind: api.KSync, Round: round}, api.OK)
	}
}

func TestP501Kind(t *testing.T) {
	c := network(8, 3, -1, 4)
	for _, kind := range []int{math.MinInt, -3, -1, 0, 4, 5, 7, 1<<32 + 1, math.MaxInt} {
		for slot := range 11 {
			checkIs(t, c, api.Frame{Kind: kind, Slot: slot}, api.ErrKind)
			checkIs(t, c, api.Frame{Kind: kind, Slot: slot, Pay: null, Echo: echo(11)}, api.ErrKind)
		}
	}
	for _, kind := range []int{api.KCold, api.KSync} {
		checkIs(t, c, api.Frame{Kind: kind, Slot: 7}, api.OK)
		for slot := 8; slot < 11; slot++ {
			checkIs(t, c, api.Frame{Kind: kind, Slot: slot}, api.ErrKind)
			checkIs(t, c, api.Frame{Kind: kind, Slot: slot, Pay: null}, api.ErrKind)
		}
	}
}

// noItems are wrong wherever an item may stand.
func noItems() []api.Item {
	return []api.Item{
		{Kind: api.INone, V: 1}, {Kind: api.INone, V: -1}, {Kind: api.INone, V: 255}, {Kind: api.INone, V: math.MinInt},
		{Kind: api.INull, V: 1}, {Kind: api.INull, V: -1}, {Kind: api.INull, V: 255}, {Kind: api.INull, V: math.MaxInt},
		val(-1), val(256), val(-256), val(1 << 32), val(math.MinInt), val(math.MaxInt),
		{Kind: 3}, {Kind: 3, V: 7}, {Kind: -1}, {Kind: -2, V: 7}, {Kind: 4}, {Kind: math.MinInt}, {Kind: math.MaxInt, V: 1},
	}
}

func TestP501Pay(t *testing.T) {
	c := network(6, 1, 3)
	for _, pay := range append(noItems(), none) {
		checkIs(t, c, api.Frame{Kind: api.KData, Slot: 5, Pay: pay, Echo: echo(8)}, api.ErrArg)
		checkIs(t, c, api.Frame{Kind: api.KData, Slot: 6, Pay: pay}, api.ErrArg)
	}
	for _, pay := range append(noItems(), null, val(0), val(1), val(255)) {
		checkIs(t, c, api.Frame{Kind: api.KCold, Pay: pay}, api.ErrArg)
		checkIs(t, c, api.Frame{Kind: api.KSync, Pay: pay}, api.ErrArg)
	}
	for v := range 256 {
		checkIs(t, c, api.Frame{Kind: api.KData, Slot: 5, Pay: val(v), Echo: echo(8)}, api.OK)
		checkIs(t, c, api.Frame{Kind: api.KData, Slot: 7, Pay: val(v)}, api.OK)
	}
}

func TestP501EchoSize(t *testing.T) {
	for _, c := range networks() {
		slots := c.N + len(c.Pairs)
		for size := range 2*slots + 2 {
			want := api.ErrLong
			if size == slots {
				want = api.OK
			}
			checkIs(t, c, api.Frame{Kind: api.KData, Slot: c.N - 1, Pay: null, Echo: echo(size)}, want)
			want = api.ErrLong
			if size == 0 {
				want = api.OK
			}
			checkIs(t, c, api.Frame{Kind: api.KCold, Slot: c.N - 1, Echo: echo(size)}, want)
			checkIs(t, c, api.Frame{Kind: api.KSync, Slot: 0, Echo: echo(size)}, want)
			for slot := c.N; slot < slots; slot++ {
				checkIs(t, c, api.Frame{Kind: api.KData, Slot: slot, Pay: val(9), Echo: echo(size)}, want)
			}
		}
	}
}

func TestP501EchoItems(t *testing.T) {
	c := network(9, 8, -1, 2)
	for at := range 12 {
		for _, i := range noItems() {
			checkIs(t, c, api.Frame{Kind: api.KData, Slot: 8, Pay: null, Echo: with(echo(12), at, i)}, api.ErrArg)
		}
		for _, i := range []api.Item{none, null, val(0), val(1), val(254), val(255)} {
			checkIs(t, c, api.Frame{Kind: api.KData, Slot: 8, Pay: null, Echo: with(echo(12), at, i)}, api.OK)
		}
	}
}

// Each line leaves out the first fault of the line ahead of it, and has all the others.
func TestP501Order(t *testing.T) {
	c := network(6, 2)
	bad := with(echo(7), 3, val(256))
	for _, x := range []struct {
		f    api.Frame
		want api.Errno
	}{
		{api.Frame{Kind: 0, Slot: 7, Round: 65536, Pay: val(-1), Echo: bad[:5]}, api.ErrArg},
		{api.Frame{Kind: 0, Slot: 6, Round: 65536, Pay: val(-1), Echo: bad[:5]}, api.ErrArg},
		{api.Frame{Kind: 0, Slot: 7, Round: 65535, Pay: val(-1), Echo: bad[:5]}, api.ErrArg},
		{api.Frame{Kind: 0, Slot: 6, Round: 65535, Pay: val(-1), Echo: bad[:5]}, api.ErrKind},
		{api.Frame{Kind: api.KSync, Slot: 6, Round: 65535, Pay: val(-1), Echo: bad[:5]}, api.ErrKind},
		{api.Frame{Kind: api.KData, Slot: 6, Round: 65535, Pay: val(-1), Echo: bad[:5]}, api.ErrArg},
		{api.Frame{Kind: api.KData, Slot: 6, Round: 65535, Pay: val(0), Echo: bad[:5]}, api.ErrLong},
		{api.Frame{Kind: api.KData, Slot: 5, Round: 65535, Pay: val(0), Echo: bad[:5]}, api.ErrLong},
		{api.Frame{Kind: api.KData, Slot: 5, Round: 65535, Pay: val(0), Echo: append(bad, null)}, api.ErrLong},
		{api.Frame{Kind: api.KCold, Slot: 5, Round: 65535, Echo: bad}, api.ErrLong},
		{api.Frame{Kind: api.KCold, Slot: 5, Round: 65535, Pay: null, Echo: bad}, api.ErrArg},
		{api.Frame{Kind: api.KData, Slot: 5, Round: 65535, Pay: val(0), Echo: bad}, api.ErrArg},
		{api.Frame{Kind: api.KData, Slot: 5, Round: 65535, Pay: val(0), Echo: with(bad, 3, val(255))}, api.OK},
		{api.Frame{Kind: api.KData, Slot: -1, Pay: val(0)}, api.ErrArg},
		{api.Frame{Kind: api.KSync, Slot: -1, Echo: bad}, api.ErrArg},
		{api.Frame{Kind: 4, Slot: 0, Round: -1}, api.ErrArg},
		{api.Frame{Kind: 4, Slot: 0, Echo: echo(1)}, api.ErrKind},
	} {
		checkIs(t, c, x.f, x.want)
	}
}

func mayBe(i api.Item) bool {
	return i.V == 0 && (i.Kind == 0 || i.Kind == 1) || i.Kind == 2 && i.V == i.V&255
}

// checkByDocument is the promise, word for word.
func checkByDocument(c api.Conf, f api.Frame) api.Errno {
	slots := c.N + len(c.Pairs)
	if f.Slot < 0 || f.Slot >= slots || f.Round < 0 || f.Round > 65535 {
		return api.ErrArg
	}
	if f.Kind < 1 || f.Kind > 3 || f.Slot >= c.N && f.Kind != 3 {
		return api.ErrKind
	}
	if !mayBe(f.Pay) || f.Kind == 3 && f.Pay.Kind == 0 || f.Kind != 3 && f.Pay.Kind != 0 {
		return api.ErrArg
	}
	must := 0
	if f.Kind == 3 && f.Slot < c.N {
		must = slots
	}
	if len(f.Echo) != must {
		return api.ErrLong
	}
	for _, i := range f.Echo {
		if !mayBe(i) {
			return api.ErrArg
		}
	}
	return api.OK
}

// manyFrames are all mixtures of what is just within and just out.
func manyFrames(c api.Conf) []api.Frame {
	slots := c.N + len(c.Pairs)
	echoes := [][]api.Item{nil, echo(1), echo(slots - 1), echo(slots), echo(slots + 1), with(echo(slots), slots-1, val(256)), with(echo(slots+1), 0, val(-1))}
	pays := []api.Item{none, null, val(0), val(255), val(256), {Kind: api.INull, V: 1}, {Kind: 3}}
	var all []api.Frame
	for _, slot := range []int{math.MinInt, -1, 0, c.N - 1, c.N, slots - 1, slots, math.MaxInt} {
		for _, round := range []int{math.MinInt, -1, 0, 65535, 65536, math.MaxInt} {
			for _, kind := range []int{math.MinInt, 0, 1, 2, 3, 4, math.MaxInt} {
				for _, pay := range pays {
					for _, e := range echoes {
						all = append(all, api.Frame{Kind: kind, Round: round, Slot: slot, Pay: pay, Echo: e})
					}
				}
			}
		}
	}
	return all
}

func TestP501ByDocument(t *testing.T) {
	for _, c := range []api.Conf{network(6), network(7, 6, -1, 0), network(12, 4), network(12, 0, 1, 2)} {
		for _, f := range manyFrames(c) {
			if want := checkByDocument(c, f); want != Check(c, f) {
				checkIs(t, c, f, want)
			}
		}
	}
}

func TestP502Text(t *testing.T) {
	c := network(6, 2)
	textIs(t, c, api.Frame{Kind: api.KCold}, "01 0000000000000000 000000 00 00000000")
	textIs(t, c, api.Frame{Kind: api.KSync, Round: 1, Slot: 1}, "10 0000000000000001 000001 00 00000000")
	textIs(t, c, api.Frame{Kind: api.KSync, Round: 65535, Slot: 5}, "10 1111111111111111 000101 00 00000000")
	textIs(t, c, api.Frame{Kind: api.KData, Round: 0x1234, Slot: 6, Pay: val(0xa5)}, "11 0001001000110100 000110 10 10100101")
	textIs(t, c, api.Frame{Kind: api.KData, Round: 0x8001, Slot: 6, Pay: null}, "11 1000000000000001 000110 01 00000000")
	textIs(t, c, api.Frame{Kind: api.KData, Slot: 6, Pay: val(0)}, "11 0000000000000000 000110 10 00000000")
	items := []api.Item{none, null, val(0), val(255), val(1), val(128), none}
	textIs(t, c, api.Frame{Kind: api.KData, Round: 2, Slot: 3, Pay: val(255), Echo: items},
		"11 0000000000000010 000011 10 11111111"+"00 00000000 01 00000000 10 00000000 10 11111111 10 00000001 10 10000000 00 00000000")
	textIs(t, network(12, 1, 2, 3), api.Frame{Kind: api.KData, Slot: 14, Pay: val(7)}, "11 0000000000000000 001110 10 00000111")
}

// The sum is worked out here, not by crc.
func TestP502TextWhole(t *testing.T) {
	got := Text(network(6), api.Frame{Kind: api.KCold})
	if len(got) != 51 || !strings.HasPrefix(got, "01"+strings.Repeat("0", 32)) || !strings.HasSuffix(got, "#") {
		t.Errorf("a KCold frame is %s", got)
	}
	sum := 0xffff
	for _, bit := range got[:34] {
		out := sum >> 15
		sum = sum << 1 & 0xffff
		if out != int(bit-'0') {
			sum ^= 0x1021
		}
	}
	if want := fmt.Sprintf("%016b#", sum); got[34:] != want {
		t.Errorf("the sum is %s, want %s", got[34:], want)
	}
}

func itemBits(i api.Item) string {
	return fmt.Sprintf("%02b%08b", i.Kind, i.V)
}

// bitsByDocument are a frame's, as another writer has them.
func bitsByDocument(f api.Frame) string {
	bits := fmt.Sprintf("%02b%016b%06b", f.Kind, f.Round, f.Slot) + itemBits(f.Pay)
	for _, i := range f.Echo {
		bits += itemBits(i)
	}
	return bits
}

// allowed are frames of each kind in each slot that may have it, with each kind of payload.
func allowed(c api.Conf) []api.Frame {
	slots := c.N + len(c.Pairs)
	var all []api.Frame
	for _, round := range []int{0, 1, 255, 256, 32768, 65534, 65535} {
		for slot := range slots {
			if slot < c.N {
				all = append(all, api.Frame{Kind: api.KCold, Round: round, Slot: slot}, api.Frame{Kind: api.KSync, Round: round, Slot: slot})
			}
			for _, pay := range []api.Item{null, val(0), val(1), val(127), val(128), val(255)} {
				f := api.Frame{Kind: api.KData, Round: round, Slot: slot, Pay: pay}
				if slot < c.N {
					f.Echo = echo(slots)
				}
				all = append(all, f)
			}
		}
	}
	return all
}

func TestP502TextOfAllKinds(t *testing.T) {
	for _, c := range networks() {
		for _, f := range allowed(c) {
			bits := bitsByDocument(f)
			textIs(t, c, f, bits)
			readIs(t, c, crc.Wrap(bits), f, api.OK)
		}
	}
}

func TestP502ReadOpensFirst(t *testing.T) {
	c := network(6, 2)
	good := Text(c, api.Frame{Kind: api.KData, Slot: 6, Pay: val(5)})
	bits := strings.TrimSuffix(good, "#")
	for _, s := range []string{"", "0", "1", "##", "0#0", bits, good + "#", good + "0", good + "\x00", "x" + good, " " + good, good + " ", strings.Replace(good, "0", "2", 1), strings.Replace(good, "1", "\xc2\xb9", 1), strings.Repeat("é", 26), "\xff\xfe#", bits[:20] + "#" + bits[20:] + "#"} {
		refused(t, c, s, api.ErrTail)
	}
	for size := range 16 {
		refused(t, c, strings.Repeat("1", size)+"#", api.ErrCut)
	}
	for at := range bits {
		turned := []byte(good)
		turned[at] ^= 1
		refused(t, c, string(turned), api.ErrSum)
	}
	// Cut short, the sum is another one, ahead of there being too few bits.
	for size := 17; size < len(bits); size++ {
		refused(t, c, bits[:size]+"#", api.ErrSum)
	}
	readIs(t, c, good, api.Frame{Kind: api.KData, Slot: 6, Pay: val(5)}, api.OK)
}

const (
	round0 = "0000000000000000"
	noPay  = "0000000000"
	aNull  = "0100000000"
)

func TestP502ReadCut(t *testing.T) {
	c := network(6, 2)
	for size := range 34 {
		for _, bit := range []string{"0", "1"} {
			refused(t, c, wrapped(strings.Repeat(bit, size)), api.ErrCut)
		}
		refused(t, c, wrapped(("01" + round0 + "000000" + noPay)[:size]), api.ErrCut)
	}
	readIs(t, c, wrapped("01", round0, "000000", noPay), api.Frame{Kind: api.KCold}, api.OK)
}

func TestP502ReadLong(t *testing.T) {
	c := network(6, 2)
	for _, x := range []struct {
		head string
		bits int
	}{
		{"01" + round0 + "000000" + noPay, 0},
		{"10" + round0 + "000101" + noPay, 0},
		{"11" + round0 + "000000" + aNull, 70},
		{"11" + round0 + "000101" + aNull, 70},
		{"11" + round0 + "000110" + aNull, 0},
	} {
		for size := range 92 {
			s := wrapped(x.head, strings.Repeat("0", size))
			_, e := Read(c, s)
			if size == x.bits && e != api.OK {
				t.Errorf("Read of %s with %d bits more: %v", x.head, size, e)
			}
			if size != x.bits {
				refused(t, c, s, api.ErrLong)
			}
		}
	}
	for _, c := range networks() {
		slots := c.N + len(c.Pairs)
		for _, items := range []int{0, slots - 1, slots + 1, c.N - 1, 2 * slots} {
			refused(t, c, wrapped("11", round0, "000001", aNull, strings.Repeat(aNull, items)), api.ErrLong)
		}
		refused(t, c, wrapped("11", round0, "000001", aNull, strings.Repeat(aNull, slots), "0"), api.ErrLong)
		refused(t, c, wrapped("11", round0, "000001", aNull, strings.Repeat(aNull, slots)[1:]), api.ErrLong)
	}
}

// What Kind and Slot want counts as they are read, be there such a kind and slot or not.
func TestP502ReadLongIsAheadOfCheck(t *testing.T) {
	c := network(6, 2)
	seven := strings.Repeat(aNull, 7)
	refused(t, c, wrapped("00", round0, "000000", noPay, "0"), api.ErrLong)
	refused(t, c, wrapped("00", round0, "000000", noPay, seven), api.ErrLong)
	refused(t, c, wrapped("00", round0, "000000", noPay), api.ErrKind)
	refused(t, c, wrapped("00", round0, "111111", noPay, seven), api.ErrLong)
	refused(t, c, wrapped("00", round0, "111111", noPay), api.ErrArg)
	refused(t, c, wrapped("11", round0, "000111", aNull, seven), api.ErrLong)
	refused(t, c, wrapped("11", round0, "111111", aNull, seven), api.ErrLong)
	refused(t, c, wrapped("11", round0, "000111", aNull), api.ErrArg)
	refused(t, c, wrapped("11", round0, "111111", aNull), api.ErrArg)
	refused(t, c, wrapped("10", round0, "000110", noPay, seven), api.ErrLong)
	refused(t, c, wrapped("10", round0, "000110", noPay), api.ErrKind)
	refused(t, c, wrapped("11", round0, "000101", noPay, seven[1:]), api.ErrLong)
	refused(t, c, wrapped("11", round0, "000101", noPay, seven), api.ErrArg)
	refused(t, c, wrapped("11", round0, "000101", "1100000000", seven), api.ErrArg)
}

func TestP502ReadChecks(t *testing.T) {
	c := network(6, 2)
	for _, pay := range []string{aNull, "1000000000", "1100000000", "0000000001", "0010000000"} {
		refused(t, c, wrapped("01", round0, "000011", pay), api.ErrArg)
		refused(t, c, wrapped("10", round0, "000011", pay), api.ErrArg)
	}
	for _, pay := range []string{noPay, "0000000001", "0100000001", "0110000000", "1100000000", "1111111111"} {
		refused(t, c, wrapped("11", round0, "000110", pay), api.ErrArg)
	}
	for _, item := range []string{"0000000001", "0010000000", "0100000001", "0110000000", "1100000000", "1111111111"} {
		for at := range 7 {
			seven := strings.Repeat(aNull, at) + item + strings.Repeat(aNull, 6-at)
			refused(t, c, wrapped("11", round0, "000101", aNull, seven), api.ErrArg)
		}
	}
	seven := "0000000000 0100000000 1000000000 1011111111 1000000001 1010000000 0000000000"
	readIs(t, c, wrapped("11", "1010000000000011", "000101", "1000000111", seven), api.Frame{
		Kind: api.KData, Round: 0xa003, Slot: 5, Pay: val(7),
		Echo: []api.Item{none, null, val(0), val(255), val(1), val(128), none},
	}, api.OK)
}

func TestP502ReadAllHeads(t *testing.T) {
	for _, c := range []api.Conf{network(6), network(6, 5), network(12, 1, -1, 11)} {
		slots := c.N + len(c.Pairs)
		for kind := range 4 {
			for slot := range 64 {
				for pay := range 1 << 10 {
					f := api.Frame{Kind: kind, Slot: slot, Pay: api.Item{Kind: pay >> 8, V: pay & 255}}
					if kind == api.KData && slot < c.N {
						f.Echo = echo(slots)
					}
					want := checkByDocument(c, f)
					got, e := Read(c, crc.Wrap(bitsByDocument(f)))
					if want != api.OK {
						f = api.Frame{}
					}
					if e != want || !Same(got, f) {
						t.Fatalf("Read of kind %d, slot %d, payload %010b: %v, %v, want %v", kind, slot, pay, got, e, want)
					}
				}
			}
		}
	}
}

func sameIs(t *testing.T, a, b api.Frame, want bool) {
	t.Helper()
	if Same(a, b) != want || Same(b, a) != want {
		t.Errorf("Same(%v, %v) and turned round: %v, %v, want %v", a, b, Same(a, b), Same(b, a), want)
	}
}

func TestP502Same(t *testing.T) {
	f := api.Frame{Kind: api.KData, Round: 5, Slot: 3, Pay: val(7), Echo: echo(6)}
	twin := f
	twin.Echo = slices.Clone(f.Echo)
	sameIs(t, f, f, true)
	sameIs(t, f, twin, true)
	sameIs(t, api.Frame{}, api.Frame{}, true)
	sameIs(t, api.Frame{Echo: []api.Item{}}, api.Frame{}, true)
	for _, change := range []func(*api.Frame){
		func(g *api.Frame) { g.Kind = api.KSync },
		func(g *api.Frame) { g.Round = 6 },
		func(g *api.Frame) { g.Round += 65536 },
		func(g *api.Frame) { g.Slot = 4 },
		func(g *api.Frame) { g.Slot += 64 },
		func(g *api.Frame) { g.Pay.Kind = api.INull },
		func(g *api.Frame) { g.Pay.V = 8 },
		func(g *api.Frame) { g.Pay.V += 256 },
		func(g *api.Frame) { g.Echo = nil },
		func(g *api.Frame) { g.Echo = g.Echo[:5] },
		func(g *api.Frame) { g.Echo = g.Echo[1:] },
		func(g *api.Frame) { g.Echo = append(g.Echo, none) },
		func(g *api.Frame) { g.Echo[0].Kind = api.INull },
		func(g *api.Frame) { g.Echo[0].V = math.MinInt },
		func(g *api.Frame) { g.Echo[5].Kind = math.MaxInt },
		func(g *api.Frame) { g.Echo[5].V++ },
		func(g *api.Frame) { g.Echo[0], g.Echo[1] = g.Echo[1], g.Echo[0] },
	} {
		other := f
		other.Echo = slices.Clone(f.Echo)
		change(&other)
		sameIs(t, f, other, false)
	}
}

func TestP503WrittenIsRead(t *testing.T) {
	for _, c := range networks() {
		for _, f := range allowed(c) {
			got, e := Read(c, Text(c, f))
			if e != api.OK || !equal(got, f) || !Same(got, f) {
				t.Errorf("%v of %v is read as %v, %v", f, c, got, e)
			}
		}
	}
}

func TestP503EachNumber(t *testing.T) {
	c := network(7, 6)
	for round := range 1 << 16 {
		f := api.Frame{Kind: api.KData, Round: round, Slot: 7, Pay: val(round & 255)}
		if got, e := Read(c, Text(c, f)); e != api.OK || !Same(got, f) {
			t.Fatalf("%v is read as %v, %v", f, got, e)
		}
	}
	for v := range 256 {
		for at := range 8 {
			f := api.Frame{Kind: api.KData, Round: v, Slot: v % 7, Pay: val(255 - v), Echo: with(echo(8), at, val(v))}
			readIs(t, c, Text(c, f), f, api.OK)
		}
	}
}

// Of what may not be handed in only this is promised: each call ends, none panics.
func TestP1AnyNumbers(t *testing.T) {
	numbers := []int{math.MinInt, math.MinInt + 1, -1 << 31, -1, 0, 1, 2, 3, 6, 12, 63, 64, 1 << 31, math.MaxInt - 1, math.MaxInt}
	var confs []api.Conf
	for _, n := range numbers {
		confs = append(confs, api.Conf{N: n}, api.Conf{N: n, Pi: n, E: n, G: n, First: n, Pairs: []int{n, 0, n}}, api.Conf{N: n, Pairs: make([]int, 100)})
	}
	for _, c := range confs {
		for _, n := range numbers {
			for _, kind := range []int{n, api.KCold, api.KSync, api.KData} {
				for _, items := range []int{0, 1, 6, 100} {
					f := api.Frame{Kind: kind, Round: n, Slot: n, Pay: api.Item{Kind: n, V: n}, Echo: make([]api.Item, items)}
					Check(c, f)
					Read(c, Text(c, f))
					f.Echo = append(f.Echo, api.Item{Kind: n, V: n})
					Check(c, f)
					Read(c, Text(c, f))
					Same(f, api.Frame{Kind: n})
				}
			}
		}
	}
}

// Networks whose items are more bits than there are numbers: what is left of their number may be that of a text.
func TestP1MoreBitsThanNumbers(t *testing.T) {
	const fifth = -0x3333333333333333 // five times this is 1, round the end of the numbers
	for _, n := range []int{math.MaxInt, math.MaxInt/5 + 1, math.MaxInt/10 + 1, fifth & math.MaxInt} {
		for size := range 40 {
			for _, pairs := range [][]int{nil, {1}, {1, 2, 3}} {
				c := api.Conf{N: n - len(pairs), Pairs: pairs}
				if _, e := Read(c, wrapped("11", round0, "000000", aNull, strings.Repeat("0", size))); e == api.OK {
					t.Errorf("of %d nodes %d bits are read", n, size)
				}
			}
		}
	}
}

func TestP1AnyTexts(t *testing.T) {
	c := network(6, 2)
	long := strings.Repeat("01", 1<<15)
	refused(t, c, long, api.ErrTail)
	refused(t, c, long[:1<<16-17]+"#", api.ErrSum)
	refused(t, c, crc.Wrap(long[:1<<16-17]), api.ErrLong)
	refused(t, c, crc.Wrap("11"+round0+"000000"+strings.Repeat(aNull, 6550)), api.ErrLong)
	refused(t, c, strings.Repeat("#", 1<<16), api.ErrTail)
	refused(t, c, strings.Repeat("\x80", 1<<16), api.ErrTail)
}

func TestP2NothingHandedInIsChanged(t *testing.T) {
	pairs := []int{2, 3, 77, 78}
	c := network(6, pairs[:2]...)
	room := append(echo(8), val(77), val(78))
	given := slices.Clone(room)
	f := api.Frame{Kind: api.KData, Slot: 2, Pay: null, Echo: room[:8]}
	g := f
	s := Text(c, f)
	Check(c, f)
	Same(f, g)
	got, _ := Read(c, s)
	got.Echo[0] = val(99)
	if !slices.Equal(room, given) || !slices.Equal(pairs, []int{2, 3, 77, 78}) {
		t.Errorf("what was handed in is %v, %v now", room, pairs)
	}
	// With room for more items behind, too few are still too few.
	f.Echo = room[:7]
	checkIs(t, c, f, api.ErrLong)
	if Text(c, f) == s || Same(f, g) {
		t.Error("what lies in the spare room counts")
	}
}

func TestP2AnswersAreNewMemory(t *testing.T) {
	c := network(6, 2)
	want := api.Frame{Kind: api.KData, Slot: 2, Pay: val(1), Echo: echo(7)}
	s := Text(c, want)
	kept, _ := Read(c, s)
	spoilt, _ := Read(c, s)
	spoilt.Echo = spoilt.Echo[:cap(spoilt.Echo)]
	for i := range spoilt.Echo {
		spoilt.Echo[i] = val(99)
	}
	if !equal(kept, want) {
		t.Error("one answer is changed by what is done to another")
	}
	readIs(t, c, s, want, api.OK)
}

func TestP3TheSameCallsAnswerTheSame(t *testing.T) {
	c := network(6, 2)
	f := api.Frame{Kind: api.KData, Slot: 6, Pay: val(5)}
	for range 3 {
		textIs(t, c, f, bitsByDocument(f))
		readIs(t, c, Text(c, f), f, api.OK)
		refused(t, c, "01#", api.ErrCut)
		checkIs(t, c, f, api.OK)
		sameIs(t, f, api.Frame{}, false)
	}
}

func FuzzRead(f *testing.F) {
	f.Add(6, 0, "01"+round0+"000000"+noPay)
	f.Add(6, 1, "11"+round0+"000101"+aNull+strings.Repeat(noPay, 7))
	f.Add(12, 3, "11"+round0+"001110"+aNull)
	f.Add(math.MaxInt, 3, "01#")
	f.Fuzz(func(t *testing.T, n, pairs int, bits string) {
		c := api.Conf{N: n, Pi: 100, Pairs: make([]int, pairs&3)}
		Read(c, bits)
		s := crc.Wrap(bits)
		got, e := Read(c, s)
		if e != api.OK {
			if !Same(got, api.Frame{}) {
				t.Errorf("beside %v there is %v", e, got)
			}
			return
		}
		if n < api.MinNodes || n > api.MaxNodes {
			return
		}
		if want := checkByDocument(c, got); want != api.OK || Text(c, got) != s {
			t.Errorf("Read(%v, %s) = %v, of which Check says %v, Text %s", c, s, got, want, Text(c, got))
		}
	})
}

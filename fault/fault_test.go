package fault

import (
	"fmt"
	"math"
	"reflect"
	"slices"
	"strings"
	"testing"
	"unsafe"

	"plaiting/api"
	"plaiting/crc"
	"plaiting/frame"
)

var null = api.Item{Kind: api.INull}

func val(v int) api.Item {
	return api.Item{Kind: api.IVal, V: v}
}

// network is one of n nodes with some pairs; its wire's rounds begin at 9.
func network(n int, pairs ...int) api.Conf {
	return api.Conf{N: n, Pi: 100, E: 2, G: 2, First: 9, Pairs: pairs}
}

// sizes are networks of every size.
func sizes() []api.Conf {
	var all []api.Conf
	for n := api.MinNodes; n <= api.MaxNodes; n++ {
		all = append(all, network(n, []int{n - 1, -1, 2}[:n%4]...))
	}
	return all
}

// extremes are numbers as great and as small as there are, and some between.
func extremes() []int {
	return []int{math.MinInt, math.MinInt + 1, math.MinInt32, -1001, -1, 0, 1, 2, 5, 6, 12, 40, 1000, 1001, math.MaxInt32, 1 << 32, math.MaxInt - 1, math.MaxInt}
}

func times(size int, i api.Item) []api.Item {
	return slices.Repeat([]api.Item{i}, size)
}

func checkIs(t *testing.T, c api.Conf, f api.Fault, want api.Errno) {
	t.Helper()
	if got := Check(c, f); got != want {
		t.Errorf("Check(%v, kind %d, at %d, from %d, to %d, %d acts, %d devs) = %v, want %v", c, f.Kind, f.At, f.From, f.To, len(f.Acts), len(f.Devs), got, want)
	}
}

func TestP601Kind(t *testing.T) {
	c := network(6)
	for _, kind := range []int{api.FNone, api.FNode, api.FLink} {
		checkIs(t, c, api.Fault{Kind: kind}, api.OK)
		checkIs(t, c, api.Fault{Kind: kind, From: 3, To: 9, Acts: []api.Act{{}}, Devs: []int{0}}, api.OK)
	}
	for _, kind := range []int{math.MinInt, -3, -2, -1, 3, 4, 1 << 32, 1<<32 + 1, math.MaxInt} {
		checkIs(t, c, api.Fault{Kind: kind}, api.ErrKind)
		checkIs(t, c, api.Fault{Kind: kind, At: 1, From: 1, To: 2}, api.ErrKind)
	}
}

func TestP601Place(t *testing.T) {
	for _, c := range sizes() {
		for _, x := range []struct{ kind, places int }{{api.FNone, 1}, {api.FNode, c.N}, {api.FLink, 2 * c.N}} {
			for at := range x.places {
				checkIs(t, c, api.Fault{Kind: x.kind, At: at}, api.OK)
			}
			for _, at := range []int{math.MinInt, math.MinInt32, -2 * c.N, -c.N, -1, x.places, x.places + 1, 4 * c.N, 1 << 32, math.MaxInt} {
				checkIs(t, c, api.Fault{Kind: x.kind, At: at}, api.ErrArg)
			}
		}
	}
}

func TestP601Rounds(t *testing.T) {
	for _, kind := range []int{api.FNone, api.FNode, api.FLink} {
		for _, x := range [][2]int{{0, 0}, {0, 1}, {0, 1000}, {1, 1}, {1, 2}, {500, 500}, {999, 1000}, {1000, 1000}} {
			checkIs(t, network(7), api.Fault{Kind: kind, From: x[0], To: x[1]}, api.OK)
		}
		for _, x := range [][2]int{
			{-1, 0}, {-1, -1}, {-1, 1000}, {-1, 1001}, {math.MinInt, 5}, {math.MinInt, math.MaxInt}, {math.MinInt, math.MinInt},
			{0, 1001}, {1000, 1001}, {1001, 1001}, {1001, 1000}, {5, math.MaxInt}, {math.MaxInt, math.MaxInt}, {math.MaxInt, 5}, {0, 1 << 32},
			{1, 0}, {2, 1}, {1000, 999}, {1000, 0}, {0, -1}, {5, math.MinInt},
		} {
			checkIs(t, network(7), api.Fault{Kind: kind, From: x[0], To: x[1]}, api.ErrArg)
		}
	}
}

func TestP601Sizes(t *testing.T) {
	c := network(8)
	for _, kind := range []int{api.FNone, api.FNode, api.FLink} {
		for size := range 90 {
			want := api.OK
			if size > 40 {
				want = api.ErrLong
			}
			checkIs(t, c, api.Fault{Kind: kind, Acts: make([]api.Act, size)}, want)
			checkIs(t, c, api.Fault{Kind: kind, Devs: make([]int, size)}, want)
			checkIs(t, c, api.Fault{Kind: kind, Acts: make([]api.Act, size), Devs: make([]int, 40)}, want)
			checkIs(t, c, api.Fault{Kind: kind, Acts: make([]api.Act, 40), Devs: make([]int, size)}, want)
		}
	}
}

func TestP601Texts(t *testing.T) {
	c := network(8)
	for _, symbol := range []string{"0", "1", "#", "x", "\x00", "\xff"} {
		for at := range 40 {
			acts := make([]api.Act, 40)
			acts[at].Text = strings.Repeat(symbol, 1000)
			checkIs(t, c, api.Fault{Acts: acts}, api.OK)
			acts[at].Text += symbol
			checkIs(t, c, api.Fault{Acts: acts}, api.ErrLong)
		}
	}
	// Bytes count, not runes.
	checkIs(t, c, api.Fault{Acts: []api.Act{{Text: strings.Repeat("é", 500)}}}, api.OK)
	checkIs(t, c, api.Fault{Acts: []api.Act{{Text: strings.Repeat("é", 501)}}}, api.ErrLong)
	// Whatever the act's numbers, and wherever it is asked for.
	for _, n := range extremes() {
		checkIs(t, c, api.Fault{Acts: []api.Act{{How: n, N: n}}, Devs: []int{n}}, api.OK)
		checkIs(t, c, api.Fault{Acts: []api.Act{{How: n, N: n, Text: strings.Repeat("0", 1001)}}}, api.ErrLong)
	}
}

// Each line leaves out the first fault of the line ahead of it, and has all the others.
func TestP601Order(t *testing.T) {
	c := network(6)
	long := make([]api.Act, 41)
	text := []api.Act{{Text: strings.Repeat("0", 1001)}}
	for _, x := range []struct {
		f    api.Fault
		want api.Errno
	}{
		{api.Fault{Kind: 3, At: 99, From: 2, To: 1, Acts: long}, api.ErrKind},
		{api.Fault{Kind: -1, At: 0, From: 2, To: 1, Devs: make([]int, 41)}, api.ErrKind},
		{api.Fault{Kind: 3, Acts: text}, api.ErrKind},
		{api.Fault{Kind: 2, At: 12, From: 2, To: 1, Acts: long}, api.ErrArg},
		{api.Fault{Kind: 2, At: 12, From: 1, To: 1, Acts: long}, api.ErrArg},
		{api.Fault{Kind: 2, At: 11, From: 2, To: 1, Acts: long}, api.ErrArg},
		{api.Fault{Kind: 1, At: 6, Acts: text}, api.ErrArg},
		{api.Fault{Kind: 0, At: 1, Devs: make([]int, 41)}, api.ErrArg},
		{api.Fault{Kind: 0, To: 1001, Devs: make([]int, 41)}, api.ErrArg},
		{api.Fault{Kind: 0, From: -1, Acts: text}, api.ErrArg},
		{api.Fault{Kind: 2, At: 11, From: 1, To: 1, Acts: long}, api.ErrLong},
		{api.Fault{Kind: 1, At: 5, Acts: text}, api.ErrLong},
		{api.Fault{Kind: 1, At: 5, Devs: make([]int, 41)}, api.ErrLong},
		{api.Fault{Kind: 1, At: 5}, api.OK},
	} {
		checkIs(t, c, x.f, x.want)
	}
}

// joined are the two nodes of a link, as chapter 4 has them.
func joined(n, link int) [2]int {
	if link < n {
		return [2]int{link, (link + 1) % n}
	}
	return [2]int{link - n, (link - n + 2) % n}
}

func TestP602HitsOfNode(t *testing.T) {
	for _, c := range sizes() {
		for at := range c.N {
			f := api.Fault{Kind: api.FNode, At: at, From: 2, To: 9}
			for from := range c.N {
				for to := range c.N {
					if got := Hits(c, f, from, to); got != (from == at) {
						t.Errorf("of %d nodes, node %d: Hits from %d to %d is %v", c.N, at, from, to, got)
					}
				}
			}
		}
	}
}

func TestP602HitsOfLink(t *testing.T) {
	for _, c := range sizes() {
		for at := range 2 * c.N {
			f := api.Fault{Kind: api.FLink, At: at, To: 9}
			ends := joined(c.N, at)
			for from := range c.N {
				for to := range c.N {
					want := ends == [2]int{from, to} || ends == [2]int{to, from}
					if got := Hits(c, f, from, to); got != want {
						t.Errorf("of %d nodes, link %d: Hits from %d to %d is %v", c.N, at, from, to, got)
					}
				}
			}
		}
	}
}

// The first and the last link, from either end; and link 0 between nodes that have none.
func TestP602HitsAtTheEdges(t *testing.T) {
	c := network(7)
	for _, x := range []struct {
		at, from, to int
		want         bool
	}{
		{0, 0, 1, true}, {0, 1, 0, true}, {0, 0, 2, false}, {0, 6, 0, false}, {0, 0, 3, false}, {0, 3, 0, false}, {0, 2, 2, false},
		{6, 6, 0, true}, {6, 0, 6, true}, {7, 0, 2, true}, {7, 2, 0, true}, {13, 6, 1, true}, {13, 1, 6, true}, {13, 6, 0, false}, {13, 5, 6, false},
	} {
		if got := Hits(c, api.Fault{Kind: api.FLink, At: x.at}, x.from, x.to); got != x.want {
			t.Errorf("link %d: Hits from %d to %d is %v", x.at, x.from, x.to, got)
		}
	}
}

func TestP602Right(t *testing.T) {
	for _, c := range sizes() {
		for _, rounds := range [][2]int{{0, 0}, {0, 1}, {2, 9}, {9, 9}, {1000, 1000}, {0, 1000}, {999, 1000}} {
			from, to := rounds[0], rounds[1]
			for at := range c.N {
				node := api.Fault{Kind: api.FNode, At: at, From: from, To: to}
				link := api.Fault{Kind: api.FLink, At: at, From: from, To: to}
				none := api.Fault{From: from, To: to}
				for _, round := range []int{0, 1, from - 1, from, from + 1, to - 1, to, to + 1, 999, 1000} {
					if round < 0 || round > 1000 {
						continue
					}
					for i := range c.N {
						if got := Right(c, node, round, i); got != (i != at || round >= to) {
							t.Errorf("node %d from %d to %d: Right of %d in round %d is %v", at, from, to, i, round, got)
						}
						if !Right(c, link, round, i) || !Right(c, none, round, i) {
							t.Errorf("link %d, or none, from %d to %d: node %d is not right in round %d", at, from, to, i, round)
						}
					}
				}
			}
		}
	}
}

// six is a network with a pair slot, slot 6; the fault of it sits at node 2 up to round 50.
var six = network(6, 0)

func lone(a api.Act) api.Fault {
	return api.Fault{Kind: api.FNode, At: 2, To: 50, Acts: []api.Act{a}}
}

func emitIs(t *testing.T, a api.Act, slot int, base, want string) {
	t.Helper()
	if got := Emit(six, lone(a), 7, slot, 2, 3, base); got != want {
		t.Errorf("Emit of %v in slot %d, where %q would go: %q, want %q", a, slot, base, got, want)
	}
}

// bases are streams: none, short ones, frames of each kind, fronts of them, one with a sum that is another one.
func bases() []string {
	data := frame.Text(six, api.Frame{Kind: api.KData, Round: 3, Slot: 1, Pay: val(77), Echo: []api.Item{{}, null, val(0), val(255), {}, null, val(4)}})
	bare := frame.Text(six, api.Frame{Kind: api.KData, Round: 65535, Slot: 6, Pay: null})
	cold := frame.Text(six, api.Frame{Kind: api.KCold, Round: 3, Slot: 1})
	sync := frame.Text(six, api.Frame{Kind: api.KSync, Round: 3, Slot: 1})
	off := []byte(bare)
	off[4] ^= 1
	return []string{"", "0", "1", "#", "01#", "0110", data, bare, cold, sync, data[:60], data[:len(data)-1], string(off)}
}

func TestP603Silent(t *testing.T) {
	for _, base := range bases() {
		for _, n := range extremes() {
			emitIs(t, api.Act{How: 0, N: n, Text: "01#"}, 0, base, "")
		}
	}
}

func TestP603Base(t *testing.T) {
	for _, base := range bases() {
		for _, n := range extremes() {
			emitIs(t, api.Act{How: 1, N: n, Text: "11#"}, 0, base, base)
		}
	}
}

func TestP603Front(t *testing.T) {
	for _, base := range bases() {
		row := len(base) + 1
		for n := range 3*row + 2 {
			emitIs(t, api.Act{How: 2, N: n}, 1, base, base[:n%row])
			// -row, -2 row and so on are 0 too.
			emitIs(t, api.Act{How: 2, N: n - 2*row}, 1, base, base[:n%row])
		}
	}
	emitIs(t, api.Act{How: 2, N: -1}, 0, "01#", "01#")
	emitIs(t, api.Act{How: 2, N: -2}, 0, "01#", "01")
	emitIs(t, api.Act{How: 2, N: -4}, 0, "01#", "")
	emitIs(t, api.Act{How: 2, N: math.MaxInt}, 0, "01#", "01#")
	emitIs(t, api.Act{How: 2, N: math.MinInt}, 0, "01#", "")
	emitIs(t, api.Act{How: 2, N: math.MinInt + 1}, 0, "01#", "0")
	emitIs(t, api.Act{How: 2, N: math.MinInt}, 0, "", "")
	emitIs(t, api.Act{How: 2, N: 5, Text: "11"}, 0, "", "")
}

func TestP603Text(t *testing.T) {
	long := strings.Repeat("01", 500)
	for _, base := range bases() {
		for _, x := range [][2]string{
			{"", ""}, {"0", "0"}, {"10#1", "10#"}, {"#", "#"}, {"##", "#"}, {"x", ""}, {"01x1#", "01"}, {"01 #", "01"}, {"1\x00", "1"}, {"0é1", "0"}, {"11\xff", "11"}, {"2", ""}, {long, long}, {long[1:] + "#", long[1:] + "#"},
		} {
			emitIs(t, api.Act{How: 3, N: 1, Text: x[0]}, 5, base, x[1])
		}
	}
}

func TestP603Turn(t *testing.T) {
	other := map[byte]byte{'0': '1', '1': '0', '#': '0'}
	for _, base := range bases() {
		for n := range 2 * len(base) {
			want := []byte(base)
			want[n%len(base)] = other[want[n%len(base)]]
			emitIs(t, api.Act{How: 4, N: n}, 2, base, string(want))
			emitIs(t, api.Act{How: 4, N: n - 3*len(base)}, 2, base, string(want))
		}
	}
	for _, n := range extremes() {
		emitIs(t, api.Act{How: 4, N: n, Text: "1"}, 2, "", "")
	}
	emitIs(t, api.Act{How: 4, N: 2}, 0, "01#", "010")
	emitIs(t, api.Act{How: 4, N: -1}, 0, "01#", "010")
	emitIs(t, api.Act{How: 4, N: -3}, 0, "01#", "11#")
	emitIs(t, api.Act{How: 4, N: math.MaxInt}, 0, "01", "00")
	emitIs(t, api.Act{How: 4, N: math.MinInt}, 0, "01", "11")
	// No base is such, but where one were, what goes out is a stream all the same.
	emitIs(t, api.Act{How: 4, N: 0}, 0, "01x1#", "11")
}

// Whether a frame of data comes as base or none does: its payload is another one, the rest is as it was.
func TestP603Pay(t *testing.T) {
	echo := []api.Item{{}, null, val(0), val(255), {}, null, val(4)}
	for _, n := range []int{0, 1, 5, 255, 256, 261, -1, -251, -256, 1 << 40, math.MaxInt, math.MinInt} {
		a, five := api.Act{How: 5, N: n, Text: "1"}, val(n&255)
		for _, f := range []api.Frame{
			{Kind: api.KData, Round: 3, Slot: 1, Pay: val(77), Echo: echo},
			{Kind: api.KData, Round: 65535, Slot: 5, Pay: null, Echo: times(7, null)},
			{Kind: api.KData, Round: 0, Slot: 6, Pay: null},
			{Kind: api.KData, Round: 16, Slot: 6, Pay: val(9)},
		} {
			want := f
			want.Pay = five
			for slot := range 7 {
				emitIs(t, a, slot, frame.Text(six, f), frame.Text(six, want))
			}
		}
		for _, base := range noData() {
			for slot := range 6 {
				emitIs(t, a, slot, base, frame.Text(six, api.Frame{Kind: api.KData, Round: 16, Slot: slot, Pay: five, Echo: times(7, null)}))
			}
			emitIs(t, a, 6, base, frame.Text(six, api.Frame{Kind: api.KData, Round: 16, Slot: 6, Pay: five}))
		}
	}
}

// noData are streams that are no frame of data.
func noData() []string {
	return slices.DeleteFunc(bases(), func(s string) bool {
		f, e := frame.Read(six, s)
		return e == api.OK && f.Kind == api.KData
	})
}

func TestP603Echo(t *testing.T) {
	echo := []api.Item{{}, null, val(0), val(255), {}, null, val(4)}
	for _, n := range []int{0, 1, 5, 255, 256, 261, -1, -251, -256, 1 << 40, math.MaxInt, math.MinInt} {
		a, five := api.Act{How: 6, N: n, Text: "1"}, val(n&255)
		for _, f := range []api.Frame{
			{Kind: api.KData, Round: 3, Slot: 1, Pay: val(77), Echo: echo},
			{Kind: api.KData, Round: 65535, Slot: 5, Pay: null, Echo: times(7, null)},
			{Kind: api.KData, Round: 0, Slot: 6, Pay: null},
			{Kind: api.KData, Round: 16, Slot: 6, Pay: val(9)},
		} {
			want := f
			want.Echo = times(len(f.Echo), five)
			for slot := range 7 {
				emitIs(t, a, slot, frame.Text(six, f), frame.Text(six, want))
			}
		}
		for _, base := range noData() {
			for slot := range 6 {
				emitIs(t, a, slot, base, frame.Text(six, api.Frame{Kind: api.KData, Round: 16, Slot: slot, Pay: null, Echo: times(7, five)}))
			}
			emitIs(t, a, 6, base, frame.Text(six, api.Frame{Kind: api.KData, Round: 16, Slot: 6, Pay: null}))
		}
	}
}

// The symbols are written out here, not by frame.
func TestP603FrameOnTheLink(t *testing.T) {
	want := crc.Wrap("11" + "0000000000010000" + "000110" + "10" + "00000101")
	emitIs(t, api.Act{How: 5, N: 5}, 6, "", want)
	want = crc.Wrap("11" + "0000000000010000" + "000100" + "01" + "00000000" + strings.Repeat("1000000101", 7))
	emitIs(t, api.Act{How: 6, N: 5}, 4, "", want)
}

// The wire's rounds come round behind 65535.
func TestP603WireRound(t *testing.T) {
	c := network(12, 11, -1, 3)
	c.First = 65535
	f := api.Fault{Kind: api.FNode, At: 11, To: 1000, Acts: []api.Act{{How: 5, N: 8}}}
	for _, x := range [][2]int{{0, 65535}, {1, 0}, {2, 1}, {999, 998}} {
		for slot := range 15 {
			want := api.Frame{Kind: api.KData, Round: x[1], Slot: slot, Pay: val(8)}
			if slot < 12 {
				want.Echo = times(15, null)
			}
			if got := Emit(c, f, x[0], slot, 11, 0, ""); got != frame.Text(c, want) {
				t.Errorf("round %d, slot %d: %s", x[0], slot, got)
			}
		}
	}
}

// A frame of data in another network is none here.
func TestP603BaseOfAnotherNetwork(t *testing.T) {
	seven := network(7, 0)
	base := frame.Text(seven, api.Frame{Kind: api.KData, Round: 3, Slot: 1, Pay: val(77), Echo: times(8, null)})
	emitIs(t, api.Act{How: 5, N: 5}, 2, base, frame.Text(six, api.Frame{Kind: api.KData, Round: 16, Slot: 2, Pay: val(5), Echo: times(7, null)}))
	emitIs(t, api.Act{How: 6, N: 5}, 2, base, frame.Text(six, api.Frame{Kind: api.KData, Round: 16, Slot: 2, Pay: null, Echo: times(7, val(5))}))
}

func TestP603HowComesRound(t *testing.T) {
	for how := range 7 {
		for _, base := range bases() {
			for slot := range 7 {
				a := api.Act{How: how, N: 5, Text: "1101#"}
				want := Emit(six, lone(a), 7, slot, 2, 3, base)
				for _, turns := range []int{-1 << 60, -1000, -3, -2, -1, 1, 2, 3, 1000, 1 << 60} {
					a.How = how + 7*turns
					emitIs(t, a, slot, base, want)
				}
			}
		}
	}
	// 2^63 - 1 is 0 modulo 7, -2^63 is 6.
	emitIs(t, api.Act{How: math.MaxInt}, 0, "01#", "")
	emitIs(t, api.Act{How: math.MinInt, N: 5}, 6, "01#", frame.Text(six, api.Frame{Kind: api.KData, Round: 16, Slot: 6, Pay: null}))
	emitIs(t, api.Act{How: math.MinInt + 2}, 0, "01#", "01#")
	emitIs(t, api.Act{How: -6}, 0, "01#", "01#")
	emitIs(t, api.Act{How: -1, N: 5}, 6, "01#", frame.Text(six, api.Frame{Kind: api.KData, Round: 16, Slot: 6, Pay: null}))
}

// told are acts each of which emits a text of its own.
func told(size int) []api.Act {
	acts := make([]api.Act, size)
	for i := range acts {
		acts[i] = api.Act{How: 3, Text: fmt.Sprintf("1%06b", i)}
	}
	return acts
}

func TestP603Pick(t *testing.T) {
	for _, c := range []api.Conf{network(6), network(7, 6, -1, 0), network(12, 1, 2, 3)} {
		for _, size := range []int{1, 2, 3, 7, 13, 39, 40} {
			f := api.Fault{Kind: api.FNode, At: 1, To: 1000, Acts: told(size)}
			for _, round := range []int{0, 1, 2, 3, 17, 100, 501, 998, 999} {
				for slot := range c.N + len(c.Pairs) {
					for _, to := range []int{0, 2, 3, c.N - 1} {
						want := f.Acts[(17*round+5*slot+to)%size].Text
						if got := Emit(c, f, round, slot, 1, to, "01#"); got != want {
							t.Errorf("of %d acts, round %d, slot %d, to %d: %s, want %s", size, round, slot, to, got, want)
						}
					}
				}
			}
		}
	}
}

// A link picks by the node that it goes to, so by its two ends two ways.
func TestP603PickOfLink(t *testing.T) {
	for _, c := range sizes() {
		for at := range 2 * c.N {
			f := api.Fault{Kind: api.FLink, At: at, From: 3, To: 20, Acts: told(40)}
			for _, x := range [][2]int{joined(c.N, at), {joined(c.N, at)[1], joined(c.N, at)[0]}} {
				for slot := range c.N {
					for round, want := range map[int]string{0: "", 2: "", 3: f.Acts[(17*3+5*slot+x[1])%40].Text, 19: f.Acts[(17*19+5*slot+x[1])%40].Text, 20: "01#", 1000: "01#"} {
						if got := Emit(c, f, round, slot, x[0], x[1], "01#"); got != want {
							t.Errorf("of %d nodes, link %d, from %d, slot %d, round %d: %q, want %q", c.N, at, x[0], slot, round, got, want)
						}
					}
				}
			}
		}
	}
}

func TestP603Rounds(t *testing.T) {
	for _, x := range [][2]int{{0, 0}, {0, 1}, {4, 4}, {4, 5}, {4, 50}, {0, 1000}, {999, 1000}, {1000, 1000}} {
		f := api.Fault{Kind: api.FNode, At: 5, From: x[0], To: x[1], Acts: []api.Act{{How: 3, Text: "1"}}}
		still := f
		still.Acts = nil
		for round := range 1001 {
			want, wantStill := "1", ""
			if round < x[0] {
				want = ""
			}
			if round >= x[1] {
				want, wantStill = "01#", "01#"
			}
			if got := Emit(six, f, round, 0, 5, 0, "01#"); got != want {
				t.Errorf("from %d to %d, round %d: %q, want %q", x[0], x[1], round, got, want)
			}
			if got := Emit(six, still, round, 0, 5, 0, "01#"); got != wantStill {
				t.Errorf("without acts, from %d to %d, round %d: %q, want %q", x[0], x[1], round, got, wantStill)
			}
		}
	}
}

// What does not come from the locus goes as it would, in every round.
func TestP603OfOthers(t *testing.T) {
	for _, c := range sizes() {
		for _, kind := range []int{api.FNode, api.FLink} {
			f := api.Fault{Kind: kind, At: 3, From: 2, To: 9, Acts: told(3)}
			for link := range 2 * c.N {
				ends := joined(c.N, link)
				for _, way := range [][2]int{ends, {ends[1], ends[0]}} {
					if kind == api.FNode && way[0] == 3 || kind == api.FLink && link == 3 {
						continue
					}
					for _, round := range []int{0, 1, 2, 8, 9, 1000} {
						for _, base := range []string{"", "0", "01#"} {
							if got := Emit(c, f, round, 0, way[0], way[1], base); got != base {
								t.Errorf("kind %d, round %d, from %d to %d: %q, want %q", kind, round, way[0], way[1], got, base)
							}
						}
					}
				}
			}
		}
	}
}

func devIs(t *testing.T, c api.Conf, f api.Fault, round, owner, node, dev, want int) {
	t.Helper()
	if got := Dev(c, f, round, owner, node, dev); got != want {
		t.Errorf("Dev(%v, %v, round %d, owner %d, node %d, %d) = %d, want %d", c, f, round, owner, node, dev, got, want)
	}
}

func TestP604Pick(t *testing.T) {
	for _, c := range sizes() {
		for _, size := range []int{1, 2, 3, 7, 12, 39, 40} {
			f := api.Fault{Kind: api.FNode, At: c.N - 1, From: 4, To: 900, Devs: make([]int, size)}
			for i := range f.Devs {
				f.Devs[i] = 7*i - 50
			}
			for _, round := range []int{4, 5, 6, 20, 501, 899} {
				for node := range c.N {
					devIs(t, c, f, round, c.N-1, node, 33, 7*((13*round+node)%size)-50)
				}
			}
		}
	}
}

func TestP604Rounds(t *testing.T) {
	for _, x := range [][2]int{{0, 0}, {0, 1}, {4, 4}, {4, 5}, {4, 50}, {0, 1000}, {999, 1000}, {1000, 1000}} {
		f := api.Fault{Kind: api.FNode, At: 0, From: x[0], To: x[1], Devs: []int{-7}}
		bare := api.Fault{Kind: api.FNode, At: 0, From: x[0], To: x[1], Devs: []int{}}
		for round := range 1001 {
			want, wantBare := 33, 33
			if x[0] <= round && round < x[1] {
				want, wantBare = -7, 0
			}
			devIs(t, six, f, round, 0, 3, 33, want)
			devIs(t, six, bare, round, 0, 3, 33, wantBare)
		}
	}
}

func TestP604Bounds(t *testing.T) {
	for _, pi := range []int{20, 100, 9999, 10000} {
		c := network(6)
		c.Pi = pi
		most := 6 * pi
		for _, x := range [][2]int{
			{most, most}, {most - 1, most - 1}, {most + 1, most}, {-most, -most}, {1 - most, 1 - most}, {-most - 1, -most},
			{0, 0}, {1, 1}, {-1, -1}, {2*pi + 1, 2*pi + 1}, {-2*pi - 1, -2*pi - 1}, {2 * most, most}, {-2 * most, -most},
			{math.MaxInt, most}, {math.MinInt, -most}, {math.MaxInt - 1, most}, {math.MinInt + 1, -most}, {1 << 32, most}, {-1 << 32, -most},
		} {
			devIs(t, c, api.Fault{Kind: api.FNode, At: 2, To: 5, Devs: []int{x[0]}}, 1, 2, 0, 33, x[1])
		}
	}
}

// dev is what it is where the locus has no hand in it, however great.
func TestP604OfOthers(t *testing.T) {
	for _, dev := range extremes() {
		f := api.Fault{Kind: api.FNode, At: 2, From: 4, To: 50, Devs: []int{5, 9000, -9000}}
		for owner := range 6 {
			for node := range 6 {
				for _, round := range []int{0, 3, 4, 49, 50, 1000} {
					if owner != 2 || round < 4 || round >= 50 {
						devIs(t, six, f, round, owner, node, dev, dev)
					}
					link := f
					link.Kind, link.At = api.FLink, owner
					devIs(t, six, link, round, owner, node, dev, dev)
				}
			}
		}
	}
}

func TestP605None(t *testing.T) {
	for _, f := range []api.Fault{
		{}, {To: 1000}, {From: 4, To: 50}, {From: 1000, To: 1000},
		{To: 1000, Acts: told(40), Devs: []int{5, -5}}, {From: 500, To: 1000, Acts: make([]api.Act, 1), Devs: []int{math.MaxInt}},
	} {
		if e := Check(six, f); e != api.OK {
			t.Errorf("Check of %v: %v", f, e)
		}
		for _, round := range []int{0, 1, 4, 499, 500, 999, 1000} {
			for from := range 6 {
				for to := range 6 {
					asItWouldBe(t, f, round, from, to)
				}
			}
		}
	}
}

func asItWouldBe(t *testing.T, f api.Fault, round, from, to int) {
	t.Helper()
	if Hits(six, f, from, to) || !Right(six, f, round, from) {
		t.Errorf("none hits from %d to %d, or node %d is not right in round %d", from, to, from, round)
	}
	for _, base := range bases() {
		for _, slot := range []int{0, 5, 6} {
			if got := Emit(six, f, round, slot, from, to, base); got != base {
				t.Errorf("none emits %q where %q would go", got, base)
			}
		}
	}
	for _, dev := range extremes() {
		devIs(t, six, f, round, from, to, dev, dev)
	}
}

// What is said of numbers that may not be handed in: each call ends, none panics.
func TestP1AnyNumbers(t *testing.T) {
	numbers := []int{math.MinInt, -1 << 31, -1, 0, 6, 13, 1 << 31, math.MaxInt}
	texts := []string{"", "x", "0x#", "##1", strings.Repeat("é", 600)}
	for _, n := range numbers {
		for _, at := range numbers {
			for _, round := range numbers {
				for i, slot := range numbers {
					c := api.Conf{N: n, Pi: at, E: n, G: n, First: slot, Pairs: []int{at, n, round, slot, 1}}
					for how := -1; how < 8; how++ {
						f := api.Fault{Kind: how % 4, At: at, From: slot, To: math.MaxInt, Acts: []api.Act{{How: how, N: round, Text: texts[i%5]}}, Devs: []int{round, slot}}
						callAll(c, f, round, slot, at, n, texts[i%5])
						f.From, f.To = math.MinInt, at
						callAll(c, f, round, slot, at, n, texts[i%5])
					}
				}
			}
		}
	}
	callAll(api.Conf{}, api.Fault{}, 0, 0, 0, 0, "")
}

func callAll(c api.Conf, f api.Fault, round, slot, from, to int, base string) {
	Check(c, f)
	Hits(c, f, from, to)
	Right(c, f, round, from)
	Emit(c, f, round, slot, from, to, base)
	Dev(c, f, round, from, to, slot)
}

// A network that Check refuses still lets every act be asked for.
func TestP1AnyNetwork(t *testing.T) {
	for _, n := range extremes() {
		for _, slot := range extremes() {
			for how := range 7 {
				f := api.Fault{Kind: api.FNode, At: 2, To: 50, Acts: []api.Act{{How: how, N: n, Text: "01#"}}, Devs: []int{n}}
				for _, base := range bases() {
					callAll(api.Conf{N: n, Pi: n, First: n}, f, 7, slot, 2, 3, base)
				}
			}
		}
	}
}

// Neither lists nor their spare room are touched.
func TestP2NothingIsChanged(t *testing.T) {
	acts, devs, pairs := told(6), []int{1, 2, 3, 4}, []int{0, 5, 7}
	acts[5].How, acts[4].How, acts[3].How = 6, 5, 4
	wasActs, wasDevs, wasPairs := slices.Clone(acts), slices.Clone(devs), slices.Clone(pairs)
	for size := range 6 {
		f := api.Fault{Kind: api.FNode, At: 2, To: 50, Acts: acts[:size], Devs: devs[:2]}
		for round := range 20 {
			callAll(api.Conf{N: 6, Pi: 1, Pairs: pairs[:2]}, f, round, 6, 2, 3, "01#")
		}
	}
	if !reflect.DeepEqual(acts, wasActs) || !slices.Equal(devs, wasDevs) || !slices.Equal(pairs, wasPairs) {
		t.Errorf("changed: %v, %v, %v", acts, devs, pairs)
	}
}

func TestP2AnswersAreNewMemory(t *testing.T) {
	base, text := strings.Repeat("01", 40), strings.Repeat("10", 40)
	for how := range 7 {
		for _, to := range []int{0, 50} {
			f := api.Fault{Kind: api.FNode, At: 2, To: to, Acts: []api.Act{{How: how, N: 60, Text: text}}}
			got := Emit(six, f, 7, 0, 2, 3, base)
			if got != "" && (unsafe.StringData(got) == unsafe.StringData(base) || unsafe.StringData(got) == unsafe.StringData(text)) {
				t.Errorf("how %d, to %d: the answer shares memory with what was handed in", how, to)
			}
		}
	}
}

func TestP2NoListIsAnEmptyOne(t *testing.T) {
	for _, kind := range []int{api.FNone, api.FNode, api.FLink} {
		none := api.Fault{Kind: kind, To: 50}
		empty := api.Fault{Kind: kind, To: 50, Acts: []api.Act{}, Devs: []int{}}
		checkIs(t, six, none, api.OK)
		checkIs(t, six, empty, api.OK)
		if a, b := Emit(six, none, 7, 0, 0, 1, "01#"), Emit(six, empty, 7, 0, 0, 1, "01#"); a != b {
			t.Errorf("kind %d: %q of no acts, %q of an empty list", kind, a, b)
		}
		if a, b := Dev(six, none, 7, 0, 1, 33), Dev(six, empty, 7, 0, 1, 33); a != b {
			t.Errorf("kind %d: %d of no devs, %d of an empty list", kind, a, b)
		}
	}
}

func TestP3TheSameAgain(t *testing.T) {
	f := api.Fault{Kind: api.FLink, At: 2, From: 1, To: 50, Acts: append(told(3), api.Act{How: 5, N: 9}, api.Act{How: 6, N: 9}), Devs: []int{1, 2}}
	once, again := story(f), story(f)
	if !slices.Equal(once, again) {
		t.Errorf("%v, then %v", once, again)
	}
}

func story(f api.Fault) []string {
	var all []string
	for round := range 60 {
		for slot := range 7 {
			all = append(all, Emit(six, f, round, slot, 2, 3, "01#"), fmt.Sprint(Dev(six, f, round, 2, 3, 5), Hits(six, f, 2, 3), Right(six, f, round, 2), Check(six, f)))
		}
	}
	return all
}

// emitByDocument is the promise, word for word.
func emitByDocument(c api.Conf, f api.Fault, round, slot, from, to int, base string) string {
	hit := f.Kind == api.FNode && from == f.At
	if f.Kind == api.FLink {
		ends := joined(c.N, f.At)
		hit = ends == [2]int{from, to} || ends == [2]int{to, from}
	}
	if !hit || round >= f.To {
		return base
	}
	if round < f.From || len(f.Acts) == 0 {
		return ""
	}
	a := f.Acts[(17*round+5*slot+to)%len(f.Acts)]
	fr, e := frame.Read(c, base)
	if e != api.OK || fr.Kind != api.KData {
		fr = api.Frame{Kind: api.KData, Round: (c.First + round) % 65536, Slot: slot, Pay: null}
		if slot < c.N {
			fr.Echo = times(c.N+len(c.Pairs), null)
		}
	}
	switch (a.How%7 + 7) % 7 {
	case 1:
		return base
	case 2:
		return base[:(a.N%(len(base)+1)+len(base)+1)%(len(base)+1)]
	case 3:
		return cleaned(a.Text)
	case 4:
		if base == "" {
			return ""
		}
		at := (a.N%len(base) + len(base)) % len(base)
		return base[:at] + map[byte]string{'0': "1", '1': "0", '#': "0"}[base[at]] + base[at+1:]
	case 5:
		fr.Pay = val(a.N & 255)
		return frame.Text(c, fr)
	case 6:
		for i := range fr.Echo {
			fr.Echo[i] = val(a.N & 255)
		}
		return frame.Text(c, fr)
	}
	return ""
}

// cleaned is a text's front that is a stream.
func cleaned(s string) string {
	end := strings.IndexFunc(s, func(r rune) bool { return r != '0' && r != '1' })
	if end < 0 {
		return s
	}
	if s[end] == '#' {
		end++
	}
	return s[:end]
}

func FuzzEmit(f *testing.F) {
	for how := range 7 {
		for _, base := range bases() {
			f.Add(api.FNode, 2, 0, 50, how, 5, "10#1", 7, 4, 2, 3, base)
			f.Add(api.FLink, 11, 3, 9, -how, -5, "x", 8, 6, 5, 1, base)
		}
	}
	f.Fuzz(func(t *testing.T, kind, at, first, end, how, n int, text string, round, slot, from, to int, base string) {
		l := api.Fault{Kind: kind, At: at, From: first, To: end, Acts: []api.Act{{How: how, N: n, Text: text}, {How: how + 1, N: n, Text: text}}, Devs: []int{n, how}}
		callAll(six, l, round, slot, from, to, base)
		linked := slices.ContainsFunc([]int{1, 2, 4, 5}, func(d int) bool { return (from+d)%6 == to })
		if Check(six, l) != api.OK || round < 0 || round > 1000 || slot < 0 || slot > 6 || from < 0 || from > 5 || !linked || base != cleaned(base) {
			return
		}
		if got, want := Emit(six, l, round, slot, from, to, base), emitByDocument(six, l, round, slot, from, to, base); got != want {
			t.Errorf("Emit(%v, %d, %d, %d, %d, %q) = %q, want %q", l, round, slot, from, to, base, got, want)
		}
	})
}

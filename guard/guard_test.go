package guard

import (
	"math"
	"slices"
	"strconv"
	"strings"
	"testing"
	"unsafe"

	"plaiting/api"
	"plaiting/conf"
)

// networks are some that may be: of each size, their windows from the least to the greatest.
func networks() []api.Conf {
	var all []api.Conf
	for n := api.MinNodes; n <= api.MaxNodes; n++ {
		for _, c := range []api.Conf{
			{Pi: 4},
			{Pi: 5, First: 65535},
			{Pi: 100, E: 2, G: 2, Pairs: []int{2}},
			{Pi: 101, E: 1, G: 20, Pairs: []int{-1, 0, n - 1}},
			{Pi: 804, E: 100, G: 100},
			{Pi: 9999, E: 100},
			{Pi: api.MaxSkew, G: 100, Pairs: []int{n - 1, n - 1}},
		} {
			c.N = n
			all = append(all, c)
		}
	}
	return all
}

// impossible are networks that may not be, those among them whose window is more than there are numbers.
func impossible() []api.Conf {
	all := []api.Conf{
		{},
		{N: 5, Pi: 100},
		{N: 13, Pi: 100},
		{N: -1, Pi: -1},
		{N: 6, Pi: 3},
		{N: 6, Pi: api.MaxSkew + 1},
		{N: 6, Pi: 100, E: -1},
		{N: 6, Pi: 100, G: 101},
		{N: 6, Pi: 100, First: 65536},
		{N: 6, Pi: 100, Pairs: []int{6}},
		{N: 6, Pi: 100, Pairs: []int{0, 1, 2, 3}},
	}
	for _, n := range extremes() {
		all = append(all, api.Conf{N: n, Pi: 100}, api.Conf{N: 6, Pi: n}, api.Conf{N: n, Pi: n, E: n, G: n, First: n, Pairs: []int{n}})
	}
	return all
}

// extremes are the least and the greatest numbers there are, those near them, and those whose double wraps round.
func extremes() []int {
	return []int{math.MinInt, math.MinInt + 1, math.MinInt / 2, math.MinInt32, -1 << 40, 1 << 40, math.MaxInt32, math.MaxInt/2 + 1, math.MaxInt - 1, math.MaxInt}
}

// others are all states but the active one, and numbers that are no states.
func others() []int {
	states := []int{api.SOff, api.SListen, api.SCold, api.SConfirm, 5, 6, 100, -1, -4, -5, 4 + 1<<8, 4 + 1<<16, 4 + 1<<32, 4 - 1<<32, math.MaxInt - 3}
	return append(states, extremes()...)
}

// texts are streams and others: what comes in is not looked at.
func texts() []string {
	return []string{
		"", "0", "1", "#", "01#", "0110", "##", "01#01#", ".", "01.1", "x", " 01#", "01#\n", "\x00", "0\x001",
		"\xff", "\x80\x81", "0\xb01", "é", "01é#", "\xc3", "０１＃", "\xed\xa0\x80", "\xf0\x9f\x98\x80", "\xef\xbf\xbd", "\ufeff01#",
		allBytes(), strings.Repeat("01", 1<<16) + "#", strings.Repeat("\xfe", 1<<16),
	}
}

func allBytes() string {
	var all []byte
	for b := range 256 {
		all = append(all, byte(b))
	}
	return string(all)
}

// near are clocks that are off by less than a window, as much, or more.
func near(window int) []int {
	return []int{0, 1, -1, window / 2, -window / 2, window - 1, 1 - window, window, -window, window + 1, -window - 1, window + 2, -window - 2, 2 * window, -2 * window, 3 * window, -3 * window, 1 << 30, -1 << 30}
}

// guards asks for whether a neighbour's stream comes in, by itself and of each text.
func guards(t *testing.T, c api.Conf, state, dev int, want bool) {
	t.Helper()
	if got := Admits(c, state, dev); got != want {
		t.Errorf("Admits(%+v, %d, %d) = %v, want %v", c, state, dev, got, want)
	}
	for _, s := range []string{"", "01#", "01", "x", "0\xff\xb0é"} {
		streamIs(t, c, state, dev, s, want)
	}
}

func streamIs(t *testing.T, c api.Conf, state, dev int, s string, comesIn bool) {
	t.Helper()
	want := ""
	if comesIn {
		want = s
	}
	if got := Stream(c, state, dev, s); got != want {
		t.Errorf("Stream(%+v, %d, %d, %.40q) = %.40q, want %.40q", c, state, dev, s, got, want)
	}
}

func TestP801Active(t *testing.T) {
	c := api.Conf{N: 7, Pi: 100, E: 2, G: 2}
	for _, x := range []struct {
		dev  int
		want bool
	}{
		{0, true},
		{1, true},
		{-1, true},
		{100, true}, // a skew, and more than one
		{-100, true},
		{101, true},
		{-101, true},
		{199, true},
		{-199, true},
		{200, true},
		{-200, true},
		{201, false},
		{-201, false},
		{202, false},
		{-202, false},
		{300, false},
		{-300, false},
		{400, false},
		{-400, false},
		{5000, false},
		{-5000, false},
		{200 + 1<<8, false}, // what is the same by its lowest bits is far out
		{200 + 1<<16, false},
		{200 + 1<<32, false},
		{200 - 1<<32, false},
		{1 << 32, false},
		{-1 << 32, false},
		{1 << 40, false},
		{-1 << 40, false},
	} {
		guards(t, c, api.SActive, x.dev, x.want)
	}
}

// Each difference there may be round the window, of a network of each size.
func TestP801EachClockOfAnActiveNode(t *testing.T) {
	for n := api.MinNodes; n <= api.MaxNodes; n++ {
		c := api.Conf{N: n, Pi: 12, E: 1, G: 1}
		for dev := -100; dev <= 100; dev++ {
			guards(t, c, api.SActive, dev, -24 <= dev && dev <= 24)
		}
	}
}

// The window's two ends, by numbers: it is twice the skew, whatever else the network is.
func TestP801WindowsEnds(t *testing.T) {
	for _, x := range []struct {
		c   api.Conf
		end int
	}{
		{api.Conf{N: 6, Pi: 4}, 8},
		{api.Conf{N: 12, Pi: 5, First: 65535}, 10},
		{api.Conf{N: 8, Pi: 500, E: 10, G: 20, First: 1000, Pairs: []int{3}}, 1000},
		{api.Conf{N: 10, Pi: 804, E: 100, G: 100, Pairs: []int{0, -1, 9}}, 1608},
		{api.Conf{N: 11, Pi: 9999, E: 100}, 19998},
		{api.Conf{N: 9, Pi: 10000, G: 100}, 20000},
	} {
		if e := conf.Check(x.c); e != api.OK {
			t.Fatalf("%+v: %v", x.c, e)
		}
		for _, side := range []int{1, -1} {
			guards(t, x.c, api.SActive, side*(x.end-1), true)
			guards(t, x.c, api.SActive, side*x.end, true)
			guards(t, x.c, api.SActive, side*(x.end+1), false)
			guards(t, x.c, api.SActive, side*(x.end+2), false)
			guards(t, x.c, api.SActive, side*2*x.end, false)
		}
	}
}

func TestP801EachNetwork(t *testing.T) {
	for _, c := range networks() {
		if e := conf.Check(c); e != api.OK {
			t.Fatalf("%+v: %v", c, e)
		}
		for _, dev := range near(2 * c.Pi) {
			guards(t, c, api.SActive, dev, -2*c.Pi <= dev && dev <= 2*c.Pi)
			for _, state := range others() {
				guards(t, c, state, dev, true)
			}
		}
	}
}

// Only an active node looks at a neighbour's clock.
func TestP801OtherStates(t *testing.T) {
	c := api.Conf{N: 6, Pi: 4}
	for _, state := range others() {
		for _, dev := range append(near(8), extremes()...) {
			guards(t, c, state, dev, true)
		}
	}
}

func TestP801EachState(t *testing.T) {
	c := api.Conf{N: 6, Pi: 100, E: 2, G: 2}
	for state := -300; state <= 300; state++ {
		guards(t, c, state, 201, state != 4)
		guards(t, c, state, -201, state != 4)
		guards(t, c, state, 200, true)
		guards(t, c, state, -200, true)
	}
}

func TestP801GreatNumbers(t *testing.T) {
	for _, c := range networks() {
		for _, dev := range extremes() {
			guards(t, c, api.SActive, dev, false)
			for _, state := range others() {
				guards(t, c, state, dev, true)
			}
		}
	}
}

// What comes in is the whole text as it is, no stream being asked for; what does not leaves nothing.
func TestP801Texts(t *testing.T) {
	c := api.Conf{N: 7, Pi: 100, E: 2, G: 2}
	for _, s := range texts() {
		for _, dev := range []int{0, 200, -200} {
			streamIs(t, c, api.SActive, dev, s, true)
		}
		for _, dev := range []int{201, -201, 5000, -5000, math.MinInt, math.MaxInt} {
			streamIs(t, c, api.SActive, dev, s, false)
			for _, state := range others() {
				streamIs(t, c, state, dev, s, true)
			}
		}
	}
}

// Each byte alone, and behind and ahead of symbols.
func TestP801TextsOfEachByte(t *testing.T) {
	c := api.Conf{N: 6, Pi: 100}
	for b := range 256 {
		one := string([]byte{byte(b)})
		for _, s := range []string{one, "01" + one, one + "01#", "01" + one + "1#"} {
			streamIs(t, c, api.SActive, 200, s, true)
			streamIs(t, c, api.SActive, 201, s, false)
			streamIs(t, c, api.SListen, 201, s, true)
		}
	}
}

// Of a network that may not be only this is promised: each call ends, and none panics.
func TestP1AnyNetwork(t *testing.T) {
	for _, c := range impossible() {
		if conf.Check(c) == api.OK {
			t.Errorf("%+v may be", c)
		}
		for _, state := range append(others(), api.SActive) {
			for _, dev := range append(near(200), extremes()...) {
				Admits(c, state, dev)
				Stream(c, state, dev, "01#")
			}
		}
	}
}

func TestP2NothingHandedInIsChanged(t *testing.T) {
	room := []int{2, -1, 6, 77, 78}
	c := api.Conf{N: 7, Pi: 100, First: 9, Pairs: room[:3]}
	for state := range 6 {
		for _, dev := range near(200) {
			Admits(c, state, dev)
			Stream(c, state, dev, "01#")
		}
	}
	if !slices.Equal(room, []int{2, -1, 6, 77, 78}) {
		t.Errorf("the pairs are %v now", room)
	}
}

func TestP2StreamIsNewMemory(t *testing.T) {
	c := api.Conf{N: 7, Pi: 100}
	for _, s := range texts() {
		if s == "" {
			continue
		}
		for state := range 6 {
			if got := Stream(c, state, 0, s); unsafe.StringData(got) == unsafe.StringData(s) {
				t.Errorf("Stream of state %d answers memory of its argument, %.40q", state, s)
			}
		}
	}
}

func TestP2NoPairsAndAnEmptyListAreTheSame(t *testing.T) {
	none, empty := api.Conf{N: 7, Pi: 100}, api.Conf{N: 7, Pi: 100, Pairs: []int{}}
	for state := range 6 {
		for _, dev := range near(200) {
			if Admits(none, state, dev) != Admits(empty, state, dev) || Stream(none, state, dev, "01#") != Stream(empty, state, dev, "01#") {
				t.Errorf("state %d, %d: no list and an empty one are told apart", state, dev)
			}
		}
	}
}

// Asked again, in the other order, and among other networks, all is answered as it was.
func TestP3TheSameAgain(t *testing.T) {
	all := networks()
	first := map[string]bool{}
	for range 2 {
		for i, c := range all {
			for state := range 6 {
				for _, dev := range near(2 * c.Pi) {
					key := strconv.Itoa(c.N) + " " + strconv.Itoa(c.Pi) + " " + strconv.Itoa(state) + " " + strconv.Itoa(dev)
					got := Admits(c, state, dev)
					if was, known := first[key]; known && got != was {
						t.Errorf("network %d, state %d, %d: %v, then %v", i, state, dev, was, got)
					}
					first[key] = got
					streamIs(t, c, state, dev, "01#", got)
				}
			}
		}
		slices.Reverse(all)
	}
}

// byDocument says P801 in another way than the package's: by steps that are counted, from the one end to the other.
func byDocument(c api.Conf, state, dev int) bool {
	if state != 4 {
		return true
	}
	for d := -2 * c.Pi; d <= 2*c.Pi; d++ {
		if d == dev {
			return true
		}
	}
	return false
}

func FuzzGuard(f *testing.F) {
	f.Add(6, 100, 4, 200, "01#")
	f.Add(7, 4, 4, -9, "é")
	f.Add(12, 10000, 4, 20001, "")
	f.Add(8, 10000, 1, math.MinInt, "01\xff")
	f.Add(0, math.MinInt, 4, math.MinInt, "x")
	f.Fuzz(func(t *testing.T, n, pi, state, dev int, s string) {
		c := api.Conf{N: n, Pi: pi}
		got, in := Admits(c, state, dev), Stream(c, state, dev, s)
		if conf.Check(c) != api.OK {
			return
		}
		if want := byDocument(c, state, dev); got != want {
			t.Errorf("Admits(%+v, %d, %d) = %v, want %v", c, state, dev, got, want)
		}
		if got && in != s || !got && in != "" {
			t.Errorf("Stream(%+v, %d, %d, %q) = %q, Admits says %v", c, state, dev, s, in, got)
		}
	})
}

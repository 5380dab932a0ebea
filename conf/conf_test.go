package conf

import (
	"math"
	"slices"
	"testing"

	"plaiting/api"
)

// plain is a network that lies within all bounds.
func plain() api.Conf {
	return api.Conf{N: 8, Pi: 500, E: 10, G: 20, First: 1000, Pairs: []int{3}}
}

// with answers the plain network, changed.
func with(change func(c *api.Conf)) api.Conf {
	c := plain()
	change(&c)
	return c
}

func checks(t *testing.T, c api.Conf, want api.Errno) {
	t.Helper()
	if got := Check(c); got != want {
		t.Errorf("Check(%+v) = %v, want %v", c, got, want)
	}
}

// networks are some of every size, with pairs of every node and of nobody.
func networks() []api.Conf {
	var all []api.Conf
	for n := 6; n <= 12; n++ {
		c := api.Conf{N: n, Pi: 4, First: 7 * n}
		all = append(all, c)
		for a := -1; a < n; a++ {
			c.Pairs = []int{a}
			all = append(all, c)
			c.Pairs = []int{n - 1, a}
			all = append(all, c)
			c.Pairs = []int{a, -1, a}
			all = append(all, c)
			c.Pairs = []int{0, a, (a + 2) % n}
			all = append(all, c)
		}
	}
	return all
}

func TestP301Allowed(t *testing.T) {
	checks(t, plain(), api.OK)
	checks(t, api.Conf{N: 6, Pi: 4}, api.OK)
	checks(t, api.Conf{N: 12, Pi: 10000, E: 100, G: 100, First: 65535, Pairs: []int{11, -1, 0}}, api.OK)
	for _, c := range networks() {
		checks(t, c, api.OK)
	}
}

// Each number in turn, all others of the plain network within their bounds.
func TestP301EachBound(t *testing.T) {
	for name, x := range map[string]struct {
		set       func(c *api.Conf, n int)
		low, high int
	}{
		"N":            {func(c *api.Conf, n int) { c.N = n }, 6, 12},
		"E":            {func(c *api.Conf, n int) { c.E, c.Pi = n, 5000 }, 0, 100},
		"G":            {func(c *api.Conf, n int) { c.G, c.Pi = n, 5000 }, 0, 100},
		"First":        {func(c *api.Conf, n int) { c.First = n }, 0, 65535},
		"Pi":           {func(c *api.Conf, n int) { c.Pi = n }, 4 * (10 + 20 + 1), 10000},
		"Pi of 0, 0":   {func(c *api.Conf, n int) { c.E, c.G, c.Pi = 0, 0, n }, 4, 10000},
		"Pi of 1, 0":   {func(c *api.Conf, n int) { c.E, c.G, c.Pi = 1, 0, n }, 8, 10000},
		"Pi of 0, 1":   {func(c *api.Conf, n int) { c.E, c.G, c.Pi = 0, 1, n }, 8, 10000},
		"Pi of 100, 0": {func(c *api.Conf, n int) { c.E, c.G, c.Pi = 100, 0, n }, 404, 10000},
		"Pi of both":   {func(c *api.Conf, n int) { c.E, c.G, c.Pi = 100, 100, n }, 804, 10000},
		"pair":         {func(c *api.Conf, n int) { c.Pairs = []int{n} }, -1, 7},
		"second pair":  {func(c *api.Conf, n int) { c.Pairs = []int{0, n} }, -1, 7},
		"third pair":   {func(c *api.Conf, n int) { c.Pairs = []int{-1, 7, n} }, -1, 7},
		"pair of 6":    {func(c *api.Conf, n int) { c.N, c.Pairs = 6, []int{n} }, -1, 5},
		"pair of 12":   {func(c *api.Conf, n int) { c.N, c.Pairs = 12, []int{n} }, -1, 11},
	} {
		for _, n := range []int{x.low, x.low + 1, (x.low + x.high) / 2, x.high - 1, x.high} {
			if c := with(func(c *api.Conf) { x.set(c, n) }); Check(c) != api.OK {
				t.Errorf("%s %d: Check(%+v) = %v, want ok", name, n, c, Check(c))
			}
		}
		for _, n := range []int{math.MinInt, math.MinInt + 1, math.MinInt32, -x.high, x.low - 2, x.low - 1, x.high + 1, x.high + 2, 2 * x.high, 1 << 32, 1<<32 + x.low, math.MaxInt - 1, math.MaxInt} {
			if x.low <= n && n <= x.high {
				continue
			}
			if c := with(func(c *api.Conf) { x.set(c, n) }); Check(c) != api.ErrArg {
				t.Errorf("%s %d: Check(%+v) = %v, want arg", name, n, c, Check(c))
			}
		}
	}
}

func TestP301HowManyPairs(t *testing.T) {
	for _, x := range []struct {
		pairs []int
		want  api.Errno
	}{
		{nil, api.OK},
		{[]int{}, api.OK},
		{[]int{-1}, api.OK},
		{[]int{0, 0}, api.OK},
		{[]int{5, 6, 7}, api.OK},
		{[]int{-1, -1, -1}, api.OK},
		{[]int{-1, -1, -1, -1}, api.ErrLong},
		{[]int{0, 1, 2, 3}, api.ErrLong},
		{[]int{0, 1, 2, 3, 4}, api.ErrLong},
		{make([]int, 1000), api.ErrLong},
		{make([]int, 0, 4), api.OK}, // spare room is no pair
		{[]int{0, 1, 2, 99}[:3], api.OK},
	} {
		checks(t, with(func(c *api.Conf) { c.Pairs = x.pairs }), x.want)
	}
}

func TestP301TheFirstErrorIsAnswered(t *testing.T) {
	four := []int{0, 1, 2, 3}
	bad := []int{99, 99, 99, 99}
	for _, pairs := range [][]int{four, bad, {-2, 0, 0, 0}, {0, 0, 0, 8}, {0, 0, 0, math.MinInt}} {
		checks(t, with(func(c *api.Conf) { c.Pairs = pairs }), api.ErrLong)
		for _, spoil := range []func(c *api.Conf){
			func(c *api.Conf) { c.N = 5 },
			func(c *api.Conf) { c.N = 13 },
			func(c *api.Conf) { c.E = -1 },
			func(c *api.Conf) { c.E = 101 },
			func(c *api.Conf) { c.G = -1 },
			func(c *api.Conf) { c.G = 101 },
			func(c *api.Conf) { c.Pi = 123 },
			func(c *api.Conf) { c.Pi = 10001 },
			func(c *api.Conf) { c.First = -1 },
			func(c *api.Conf) { c.First = 65536 },
		} {
			checks(t, with(func(c *api.Conf) { c.Pairs = pairs; spoil(c) }), api.ErrArg)
		}
	}
	checks(t, api.Conf{}, api.ErrArg)
	checks(t, api.Conf{Pairs: bad}, api.ErrArg)
}

// Numbers that are out of bounds are not made up for by one another, nor by being so great that their sum wraps round.
func TestP301GreatNumbers(t *testing.T) {
	for _, x := range []struct{ e, g, pi int }{
		{-1, 1, 500},
		{1, -1, 500},
		{101, -101, 500},
		{-100, 101, 500},
		{math.MaxInt, math.MinInt, 500},
		{math.MinInt, math.MaxInt, 4},
		{math.MaxInt, math.MaxInt, 500},
		{math.MinInt, math.MinInt, 4},
		{1 << 62, 0, 4},
		{0, 1 << 62, 4},
		{1 << 61, 1 << 61, 4},
		{1<<62 - 1, 0, 4},
		{0, 0, math.MinInt},
		{0, 0, math.MaxInt},
		{0, 0, 3},
		{0, 0, 0},
		{0, 0, -4},
	} {
		checks(t, with(func(c *api.Conf) { c.E, c.G, c.Pi = x.e, x.g, x.pi }), api.ErrArg)
	}
}

func TestP302Numbers(t *testing.T) {
	for _, x := range []struct {
		c                          api.Conf
		slots, most, window, limit int
	}{
		{api.Conf{N: 6, Pi: 4}, 6, 4, 8, 32},
		{api.Conf{N: 7, Pi: 5, Pairs: []int{}}, 7, 4, 10, 36},
		{api.Conf{N: 8, Pi: 101, Pairs: []int{-1}}, 9, 5, 202, 40},
		{api.Conf{N: 9, Pi: 500, E: 10, G: 20, Pairs: []int{8}}, 10, 5, 1000, 44},
		{api.Conf{N: 10, Pi: 804, E: 100, G: 100, Pairs: []int{0, 0}}, 12, 6, 1608, 48},
		{api.Conf{N: 11, Pi: 9999, First: 65535, Pairs: []int{1, -1}}, 13, 6, 19998, 52},
		{api.Conf{N: 12, Pi: 10000, Pairs: []int{-1, -1, -1}}, 15, 7, 20000, 56},
	} {
		checks(t, x.c, api.OK)
		if got := Slots(x.c); got != x.slots {
			t.Errorf("Slots(%+v) = %d, want %d", x.c, got, x.slots)
		}
		if got := Most(x.c); got != x.most {
			t.Errorf("Most(%+v) = %d, want %d", x.c, got, x.most)
		}
		if got := Window(x.c); got != x.window {
			t.Errorf("Window(%+v) = %d, want %d", x.c, got, x.window)
		}
		if got := Limit(x.c); got != x.limit {
			t.Errorf("Limit(%+v) = %d, want %d", x.c, got, x.limit)
		}
	}
}

// The fewest that are more than all others together.
func TestP302MostIsMoreThanHalf(t *testing.T) {
	for n := 6; n <= 12; n++ {
		most := Most(api.Conf{N: n, Pi: 4})
		if most <= n-most || most-1 > n-(most-1) {
			t.Errorf("Most of %d = %d", n, most)
		}
	}
}

func TestP302OwnersAndVoters(t *testing.T) {
	c := api.Conf{N: 7, Pi: 4, Pairs: []int{2, -1, 6}}
	for _, x := range []struct {
		slot           int
		owners, voters []int
	}{
		{0, []int{0}, []int{1, 2, 3, 4, 5, 6}},
		{1, []int{1}, []int{0, 2, 3, 4, 5, 6}},
		{3, []int{3}, []int{0, 1, 2, 4, 5, 6}},
		{6, []int{6}, []int{0, 1, 2, 3, 4, 5}},
		{7, []int{2, 3}, []int{0, 1, 4, 5, 6}},
		{8, nil, []int{0, 1, 2, 3, 4, 5, 6}},
		{9, []int{6, 0}, []int{1, 2, 3, 4, 5}}, // round the ring, the first of the pair first
	} {
		if got := Owners(c, x.slot); !slices.Equal(got, x.owners) {
			t.Errorf("Owners of slot %d = %v, want %v", x.slot, got, x.owners)
		}
		if got := Voters(c, x.slot); !slices.Equal(got, x.voters) {
			t.Errorf("Voters of slot %d = %v, want %v", x.slot, got, x.voters)
		}
	}
}

func TestP302OwnersOfEachSlot(t *testing.T) {
	for _, c := range networks() {
		for node := range c.N {
			if got := Owners(c, node); !slices.Equal(got, []int{node}) {
				t.Errorf("Owners(%+v, %d) = %v", c, node, got)
			}
		}
		for k, a := range c.Pairs {
			want := []int{a, a + 1}
			if a == c.N-1 {
				want = []int{a, 0}
			}
			if a == -1 {
				want = nil
			}
			if got := Owners(c, c.N+k); !slices.Equal(got, want) {
				t.Errorf("Owners(%+v, %d) = %v, want %v", c, c.N+k, got, want)
			}
		}
	}
}

// What is no slot is nobody's: all nodes are no owners of it.
func TestP302NoSlots(t *testing.T) {
	for _, c := range networks() {
		all := Voters(api.Conf{N: c.N, Pi: 4, Pairs: []int{-1}}, c.N)
		if len(all) != c.N {
			t.Fatalf("Voters of nobody's slot of %d nodes = %v", c.N, all)
		}
		for _, slot := range []int{math.MinInt, math.MinInt + c.N, -65536, -c.N, -2, -1, Slots(c), Slots(c) + 1, 2 * Slots(c), 65536, math.MaxInt - c.N, math.MaxInt} {
			if got := Owners(c, slot); len(got) != 0 {
				t.Errorf("Owners(%+v, %d) = %v, want none", c, slot, got)
			}
			if got := Voters(c, slot); !slices.Equal(got, all) {
				t.Errorf("Voters(%+v, %d) = %v, want all", c, slot, got)
			}
		}
	}
}

func TestP302Wire(t *testing.T) {
	for _, x := range []struct{ first, round, want int }{
		{0, 0, 0},
		{0, 1, 1},
		{0, 65535, 65535},
		{0, 65536, 0},
		{0, 65537, 1},
		{0, 131071, 65535},
		{0, 131072, 0},
		{1000, 0, 1000},
		{1000, 64535, 65535},
		{1000, 64536, 0},
		{65535, 0, 65535},
		{65535, 1, 0},
		{65535, 2, 1},
		{65535, 65535, 65534},
		{65535, 65536, 65535},
		{65535, 65537, 0},
		{0, 1 << 30, 0},
		{5, 1 << 30, 5},
		{65535, 1 << 30, 65535},
		{65535, 1<<30 - 1, 65534},
		{1, 1<<30 - 1, 0},
	} {
		c := with(func(c *api.Conf) { c.First = x.first })
		checks(t, c, api.OK)
		if got := Wire(c, x.round); got != x.want {
			t.Errorf("Wire of %d, %d = %d, want %d", x.first, x.round, got, x.want)
		}
	}
}

// Counted up by ones, the wire's round goes on at 0 behind 65535, whatever it began with.
func TestP302WireGoesRound(t *testing.T) {
	for _, first := range []int{0, 1, 40000, 65535} {
		c := with(func(c *api.Conf) { c.First = first })
		want := first
		for round := range 140000 {
			if got := Wire(c, round); got != want {
				t.Fatalf("Wire of %d, %d = %d, want %d", first, round, got, want)
			}
			want++
			if want == 65536 {
				want = 0
			}
		}
	}
}

func holdsAllNodes(t *testing.T, c api.Conf, slot int) {
	t.Helper()
	owners, voters := Owners(c, slot), Voters(c, slot)
	if !slices.IsSorted(voters) {
		t.Errorf("Voters(%+v, %d) = %v, not in order", c, slot, voters)
	}
	both := append(slices.Clone(owners), voters...)
	slices.Sort(both)
	if len(both) != c.N {
		t.Fatalf("Owners and Voters of %+v, %d: %v and %v, not each node once", c, slot, owners, voters)
	}
	for i, node := range both {
		if node != i {
			t.Fatalf("Owners and Voters of %+v, %d: %v and %v, not each node once", c, slot, owners, voters)
		}
	}
}

func TestP303OwnersAndVotersAreAllNodes(t *testing.T) {
	for _, c := range networks() {
		for slot := -2; slot < Slots(c)+2; slot++ {
			holdsAllNodes(t, c, slot)
		}
	}
}

// Of what Check refuses only this is promised: each call ends, none panics.
func TestP1AnyNumbers(t *testing.T) {
	numbers := []int{math.MinInt, math.MinInt + 1, -13, -1, 0, 1, 6, 13, 1 << 31, math.MaxInt - 1, math.MaxInt}
	for _, n := range numbers {
		for _, x := range numbers {
			for _, y := range numbers {
				c := api.Conf{N: n, Pi: x, E: y, G: x, First: y, Pairs: []int{x, y, n, n - 1, n + 1}}
				checks(t, c, refused(c))
				Slots(c)
				Most(c)
				Window(c)
				Limit(c)
				for _, slot := range append(numbers, n-1, n+1, n+2, n+3, n+4, n+5) {
					Owners(c, slot)
					Voters(c, slot)
					Wire(c, slot)
				}
			}
		}
	}
}

// refused is the error of a network with five pairs.
func refused(c api.Conf) api.Errno {
	c.Pairs = nil
	if Check(c) != api.OK {
		return api.ErrArg
	}
	return api.ErrLong
}

func TestP2NothingHandedInIsChanged(t *testing.T) {
	room := []int{2, -1, 6, 77, 78}
	c := api.Conf{N: 7, Pi: 100, First: 9, Pairs: room[:3]}
	Check(c)
	for slot := range Slots(c) {
		Owners(c, slot)
		Voters(c, slot)
	}
	Most(c)
	Window(c)
	Limit(c)
	Wire(c, 5)
	if !slices.Equal(room, []int{2, -1, 6, 77, 78}) {
		t.Errorf("the pairs are %v now", room)
	}
}

func TestP2AnswersAreNewMemory(t *testing.T) {
	c := api.Conf{N: 7, Pi: 100, Pairs: []int{2, -1, 6}}
	spoil := func(l []int) {
		l = l[:cap(l)]
		for i := range l {
			l[i] = 99
		}
	}
	for slot := -1; slot <= Slots(c); slot++ {
		owners, voters := slices.Clone(Owners(c, slot)), slices.Clone(Voters(c, slot))
		kept := Owners(c, slot)
		keptVoters := Voters(c, slot)
		spoil(Owners(c, slot))
		spoil(Voters(c, slot))
		if !slices.Equal(kept, owners) || !slices.Equal(keptVoters, voters) {
			t.Errorf("slot %d: one answer is changed by what is done to another", slot)
		}
		if !slices.Equal(Owners(c, slot), owners) || !slices.Equal(Voters(c, slot), voters) {
			t.Errorf("slot %d: a later answer is changed by what was done to an earlier one", slot)
		}
	}
	if !slices.Equal(c.Pairs, []int{2, -1, 6}) {
		t.Errorf("the pairs are %v now", c.Pairs)
	}
}

func TestP2NoPairsAndAnEmptyListAreTheSame(t *testing.T) {
	none, empty := with(func(c *api.Conf) { c.Pairs = nil }), with(func(c *api.Conf) { c.Pairs = []int{} })
	if Check(none) != Check(empty) || Slots(none) != Slots(empty) {
		t.Error("no list and an empty one are told apart")
	}
	for slot := -1; slot < 10; slot++ {
		if !slices.Equal(Owners(none, slot), Owners(empty, slot)) || !slices.Equal(Voters(none, slot), Voters(empty, slot)) {
			t.Errorf("slot %d: no list and an empty one are told apart", slot)
		}
	}
}

// byDocument is Check said in another way than the package's: bound by bound, in the promise's order.
func byDocument(c api.Conf) api.Errno {
	out := func(n, low, high int) bool { return n < low || n > high }
	if out(c.N, 6, 12) || out(c.E, 0, 100) || out(c.G, 0, 100) || out(c.Pi, 4*(c.E+c.G+1), 10000) || out(c.First, 0, 65535) {
		return api.ErrArg
	}
	if len(c.Pairs) > 3 {
		return api.ErrLong
	}
	for _, a := range c.Pairs {
		if out(a, -1, c.N-1) {
			return api.ErrArg
		}
	}
	return api.OK
}

func FuzzConf(f *testing.F) {
	f.Add(7, 100, 2, 2, 65530, []byte{2, 255, 6}, 9, 6)
	f.Add(6, 4, 0, 0, 0, []byte{}, -1, 1<<30)
	f.Add(12, 804, 100, 100, 65535, []byte{1, 2, 3, 4}, 15, 0)
	f.Fuzz(func(t *testing.T, n, pi, e, g, first int, pairs []byte, slot, round int) {
		c := api.Conf{N: n, Pi: pi, E: e, G: g, First: first}
		for _, a := range pairs {
			c.Pairs = append(c.Pairs, int(int8(a)))
		}
		checks(t, c, byDocument(c))
		owners, voters, wire := Owners(c, slot), Voters(c, slot), Wire(c, round)
		if Check(c) != api.OK {
			return
		}
		holdsAllNodes(t, c, slot)
		if slot < 0 || slot >= Slots(c) {
			if len(owners) != 0 || len(voters) != c.N {
				t.Errorf("Owners, Voters(%+v, %d) = %v, %v", c, slot, owners, voters)
			}
		}
		if 0 <= round && round <= 1<<30 && wire != (first+round)%65536 {
			t.Errorf("Wire(%+v, %d) = %d", c, round, wire)
		}
	})
}

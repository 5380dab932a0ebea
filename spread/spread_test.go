package spread

import (
	"math"
	"slices"
	"strconv"
	"strings"
	"testing"
	"unsafe"

	"plaiting/api"
	"plaiting/conf"
	"plaiting/fault"
	"plaiting/frame"
)

var directions = [...]int{1, -1}

// task is all that one call is handed.
type task struct {
	c                api.Conf
	f                api.Fault
	round, slot, dir int
	sends            []string
	states, devs     []int
}

func (k task) run() []Side {
	return Run(k.c, k.f, k.round, k.slot, k.dir, k.sends, k.states, k.devs)
}

func (k task) String() string {
	text := []string{"nodes", strconv.Itoa(k.c.N), "pairs", list(k.c.Pairs), "round", strconv.Itoa(k.round), "slot", strconv.Itoa(k.slot), "dir", strconv.Itoa(k.dir)}
	text = append(text, "locus", list([]int{k.f.Kind, k.f.At, k.f.From, k.f.To}), "sends", quoted(k.sends), "states", list(k.states), "devs", list(k.devs))
	for _, a := range k.f.Acts {
		text = append(text, "act", list([]int{a.How, a.N}), strconv.Quote(a.Text))
	}
	return strings.Join(text, " ")
}

func list(l []int) string {
	text := ""
	for _, n := range l {
		text += " " + strconv.Itoa(n)
	}
	return "[" + text + " ]"
}

func quoted(l []string) string {
	text := ""
	for _, s := range l {
		text += " " + strconv.Quote(s)
	}
	return "[" + text + " ]"
}

func show(s Side) string {
	return quoted([]string{s.Direct, s.Skip, s.Out}) + " far " + strconv.Itoa(s.Far)
}

func network(n int, pairs ...int) api.Conf {
	return api.Conf{N: n, Pi: 100, E: 2, G: 2, First: 9, Pairs: pairs}
}

// window is how far off a neighbour's clock may be in the networks above.
const window = 200

// plain is a slot of a network without a locus, all of its nodes active and in step.
func plain(c api.Conf, slot, dir int, sends ...string) task {
	return task{c: c, round: 5, slot: slot, dir: dir, sends: sends, states: times(c.N, api.SActive), devs: make([]int, c.N)}
}

func times(n, v int) []int {
	return slices.Repeat([]int{v}, n)
}

// says answers a locus that sends a text, whatever it ought to send, from round 0 to 49.
func says(kind, at int, text string) api.Fault {
	return api.Fault{Kind: kind, At: at, To: 50, Acts: []api.Act{{How: 3, Text: text}}}
}

func sidesAre(t *testing.T, k task, want []Side) {
	t.Helper()
	got := k.run()
	if len(got) != len(want) {
		t.Fatalf("%v: %d sides, want %d", k, len(got), len(want))
	}
	for node := range want {
		if got[node] != want[node] {
			t.Errorf("%v: node %d: %s, want %s", k, node, show(got[node]), show(want[node]))
		}
	}
}

// Of no locus, all clocks near: whatever one owner sends goes all round.
func TestP901OwnSlot(t *testing.T) {
	for n := api.MinNodes; n <= api.MaxNodes; n++ {
		for slot := range n {
			for _, dir := range directions {
				for _, s := range []string{"", "0", "01", "#", "01#", "0110#"} {
					want := make([]Side, n)
					for far := range n {
						node := ((slot+far*dir)%n + n) % n
						want[node] = Side{Direct: s, Skip: s, Out: s, Far: far}
					}
					want[slot] = Side{Out: s}
					beside := ((slot+dir)%n + n) % n
					want[beside].Skip = ""
					sidesAre(t, plain(network(n), slot, dir, s), want)
				}
			}
		}
	}
}

func TestP901PairSlot(t *testing.T) {
	for _, x := range []struct{ one, other, out string }{
		{"01#", "01#", "01#"},
		{"01#", "00#", "0"},
		{"01#", "01", "01"},
		{"01", "01#", "01"},
		{"01#", "1", ""},
		{"01#", "", ""},
		{"", "01#", ""},
		{"", "", ""},
	} {
		c := network(6, 0, 3, 5)
		for slot, owners := range map[int][2]int{6: {0, 1}, 7: {3, 4}, 8: {5, 0}} {
			up, down := make([]Side, 6), make([]Side, 6)
			for far := 1; far <= 4; far++ {
				direct, skip := x.out, x.out
				node := (owners[1] + far) % 6
				up[node] = Side{Direct: direct, Skip: skip, Out: x.out, Far: far}
				node = (owners[0] - far + 6) % 6
				down[node] = Side{Direct: direct, Skip: skip, Out: x.out, Far: far}
			}
			// The first one hears both owners; the one behind it the owner that is last in that direction.
			up[(owners[1]+1)%6].Direct, up[(owners[1]+1)%6].Skip = x.other, x.one
			up[(owners[1]+2)%6].Skip = x.other
			down[(owners[0]+5)%6].Direct, down[(owners[0]+5)%6].Skip = x.one, x.other
			down[(owners[0]+4)%6].Skip = x.one
			for _, sides := range [][]Side{up, down} {
				sides[owners[0]] = Side{Out: x.one}
				sides[owners[1]] = Side{Out: x.other}
			}
			sidesAre(t, plain(c, slot, 1, x.one, x.other), up)
			sidesAre(t, plain(c, slot, -1, x.one, x.other), down)
		}
	}
}

// Of a slot that nobody owns all Sides are zero, wherever the locus is.
func TestP901NobodysSlot(t *testing.T) {
	for n := api.MinNodes; n <= api.MaxNodes; n++ {
		c := network(n, 0, -1)
		for _, dir := range directions {
			for _, f := range []api.Fault{{}, says(api.FNode, 2, "01#"), says(api.FLink, 2, "01#"), says(api.FLink, n+2, "01#")} {
				for _, sends := range [][]string{nil, {}, {"01#"}, {"01#", "01#"}} {
					k := plain(c, n+1, dir, sends...)
					k.f = f
					sidesAre(t, k, make([]Side, n))
				}
			}
		}
	}
}

// Nodes that are off hear, but pass nothing on: behind them there is nothing.
func TestP901OffNodes(t *testing.T) {
	s := "01#"
	whole := Side{Direct: s, Skip: s, Out: s}
	for _, x := range []struct {
		off  []int
		dir  int
		want []Side
	}{
		{[]int{1}, 1, []Side{{Out: s}, {Direct: s}, {Skip: s}, {}, {}, {}}},
		{[]int{2}, 1, []Side{{Out: s}, {Direct: s, Out: s}, {Direct: s, Skip: s}, {Skip: s}, {}, {}}},
		{[]int{4}, 1, []Side{{Out: s}, {Direct: s, Out: s}, whole, whole, {Direct: s, Skip: s}, {Skip: s}}},
		{[]int{5}, 1, []Side{{Out: s}, {Direct: s, Out: s}, whole, whole, whole, {Direct: s, Skip: s}}},
		{[]int{5}, -1, []Side{{Out: s}, {}, {}, {}, {Skip: s}, {Direct: s}}},
		{[]int{4}, -1, []Side{{Out: s}, {}, {}, {Skip: s}, {Direct: s, Skip: s}, {Direct: s, Out: s}}},
		{[]int{1}, -1, []Side{{Out: s}, {Direct: s, Skip: s}, whole, whole, whole, {Direct: s, Out: s}}},
		{[]int{2, 3}, 1, []Side{{Out: s}, {Direct: s, Out: s}, {Direct: s, Skip: s}, {Skip: s}, {}, {}}},
		{[]int{0}, 1, []Side{{Out: s}, {Direct: s, Out: s}, whole, whole, whole, whole}}, // what an owner sends is handed in
		{[]int{0, 1, 2, 3, 4, 5}, 1, []Side{{Out: s}, {Direct: s}, {Skip: s}, {}, {}, {}}},
	} {
		k := plain(network(6), 0, x.dir, s)
		for _, node := range x.off {
			k.states[node] = api.SOff
		}
		for node := 1; node < 6; node++ {
			x.want[node].Far = map[int]int{1: node, -1: 6 - node}[x.dir]
		}
		sidesAre(t, k, x.want)
	}
}

// Of a pair's slot the first one that is off hears both owners.
func TestP901OffBesideAPair(t *testing.T) {
	k := plain(network(7, 2), 7, 1, "01#", "01#")
	k.states[4] = api.SOff
	sidesAre(t, k, []Side{{Far: 4}, {Far: 5}, {Out: "01#"}, {Out: "01#"}, {Direct: "01#", Skip: "01#", Far: 1}, {Skip: "01#", Far: 2}, {Far: 3}})
}

// All states but SOff pass on alike.
func TestP901EachState(t *testing.T) {
	for _, dir := range directions {
		for _, slot := range []int{3, 7} {
			whole := plain(network(7, 3), slot, dir, "01#", "010")
			for state := -3; state <= 9; state++ {
				if state == api.SOff {
					continue
				}
				k := whole
				k.states = times(7, state)
				sidesAre(t, k, whole.run())
			}
		}
	}
}

// The first one, if it is active, lets the last owner's stream in as long as that one's clock is within the window.
func TestP901FirstOnesClock(t *testing.T) {
	for _, dir := range directions {
		for state := range 5 {
			for _, x := range []struct {
				dev int
				in  bool
			}{{0, true}, {window - 1, true}, {window, true}, {window + 1, false}, {1 - window, true}, {-window, true}, {-window - 1, false}, {3 * window, false}, {math.MaxInt, false}, {math.MinInt, false}} {
				own, pair := plain(network(8, 3), 3, dir, "01#"), plain(network(8, 3), 8, dir, "01#", "01#")
				ownFirst, pairFirst := 4, 5
				if dir == -1 {
					ownFirst, pairFirst = 2, 2
				}
				for i, k := range []task{own, pair} {
					node := [...]int{ownFirst, pairFirst}[i]
					k.states[node], k.devs[node] = state, x.dev
					want := Side{Far: 1}
					if state != api.SActive || x.in {
						want.Direct = "01#"
					}
					if k.slot == 8 {
						want.Skip = "01#" // no guardian stands at the far link
					}
					if state != api.SOff {
						want.Out = want.Direct
					}
					if got := k.run()[node]; got != want {
						t.Errorf("%v: node %d: %s, want %s", k, node, show(got), show(want))
					}
				}
			}
		}
	}
}

// Behind a guardian that lets nothing in there is nothing either.
func TestP901BehindAClosedGuardian(t *testing.T) {
	k := plain(network(6, 2), 0, 1, "01#")
	k.devs[1] = window + 1
	sidesAre(t, k, []Side{{Out: "01#"}, {Far: 1}, {Skip: "01#", Far: 2}, {Far: 3}, {Far: 4}, {Far: 5}})
	k = plain(network(6, 2), 6, -1, "01#", "01#")
	k.devs[1] = -window - 1
	sidesAre(t, k, []Side{{Skip: "01#", Far: 2}, {Skip: "01#", Far: 1}, {Out: "01#"}, {Out: "01#"}, {Far: 4}, {Far: 3}})
}

// Only the first one looks at a clock.
func TestP901OtherClocks(t *testing.T) {
	for _, dir := range directions {
		for slot := range 9 {
			whole := plain(network(7, 3, 6), slot, dir, "0110#", "0110")
			want := whole.run()
			for _, dev := range []int{window + 1, -window - 1, math.MaxInt, math.MinInt} {
				k := whole
				k.devs = times(7, dev)
				for node, s := range want {
					if s.Far == 1 {
						k.devs[node] = 0
					}
				}
				sidesAre(t, k, want)
			}
		}
	}
}

// The locus says 00# where 0110# is sent in slot 0 of seven nodes: what each node had.
func TestP901Locus(t *testing.T) {
	s, bad := "0110#", "00#"
	for _, x := range []struct {
		kind, at, dir int
		want          []Side
	}{
		// the owner
		{api.FNode, 0, 1, []Side{{"", "", s, 0}, {bad, "", bad, 1}, {bad, bad, bad, 2}, {bad, bad, bad, 3}, {bad, bad, bad, 4}, {bad, bad, bad, 5}, {bad, bad, bad, 6}}},
		{api.FNode, 0, -1, []Side{{"", "", s, 0}, {bad, bad, bad, 6}, {bad, bad, bad, 5}, {bad, bad, bad, 4}, {bad, bad, bad, 3}, {bad, bad, bad, 2}, {bad, "", bad, 1}}},
		// one beside it, one two steps off, one between, the last one
		{api.FNode, 1, 1, []Side{{"", "", s, 0}, {s, "", s, 1}, {bad, s, "0", 2}, {"0", bad, "0", 3}, {"0", "0", "0", 4}, {"0", "0", "0", 5}, {"0", "0", "0", 6}}},
		{api.FNode, 2, 1, []Side{{"", "", s, 0}, {s, "", s, 1}, {s, s, s, 2}, {bad, s, "0", 3}, {"0", bad, "0", 4}, {"0", "0", "0", 5}, {"0", "0", "0", 6}}},
		{api.FNode, 4, -1, []Side{{"", "", s, 0}, {"0", "0", "0", 6}, {"0", bad, "0", 5}, {bad, s, "0", 4}, {s, s, s, 3}, {s, s, s, 2}, {s, "", s, 1}}},
		{api.FNode, 6, 1, []Side{{"", "", s, 0}, {s, "", s, 1}, {s, s, s, 2}, {s, s, s, 3}, {s, s, s, 4}, {s, s, s, 5}, {s, s, s, 6}}},
		{api.FNode, 6, -1, []Side{{"", "", s, 0}, {"0", "0", "0", 6}, {"0", "0", "0", 5}, {"0", "0", "0", 4}, {"0", bad, "0", 3}, {bad, s, "0", 2}, {s, "", s, 1}}},
		// the near link beside the owner, and that it is none in the other direction
		{api.FLink, 0, 1, []Side{{"", "", s, 0}, {bad, "", bad, 1}, {bad, s, "0", 2}, {"0", bad, "0", 3}, {"0", "0", "0", 4}, {"0", "0", "0", 5}, {"0", "0", "0", 6}}},
		{api.FLink, 0, -1, []Side{{"", "", s, 0}, {s, s, s, 6}, {s, s, s, 5}, {s, s, s, 4}, {s, s, s, 3}, {s, s, s, 2}, {s, "", s, 1}}},
		{api.FLink, 6, -1, []Side{{"", "", s, 0}, {"0", "0", "0", 6}, {"0", "0", "0", 5}, {"0", "0", "0", 4}, {"0", bad, "0", 3}, {bad, s, "0", 2}, {bad, "", bad, 1}}},
		// a near link further on, in either direction
		{api.FLink, 3, 1, []Side{{"", "", s, 0}, {s, "", s, 1}, {s, s, s, 2}, {s, s, s, 3}, {bad, s, "0", 4}, {"0", s, "0", 5}, {"0", "0", "0", 6}}},
		{api.FLink, 3, -1, []Side{{"", "", s, 0}, {"0", "0", "0", 6}, {"0", s, "0", 5}, {bad, s, "0", 4}, {s, s, s, 3}, {s, s, s, 2}, {s, "", s, 1}}},
		// the far link of the owner, a far link further on, and one round the owner, by which nothing comes
		{api.FLink, 7, 1, []Side{{"", "", s, 0}, {s, "", s, 1}, {s, bad, "0", 2}, {"0", s, "0", 3}, {"0", "0", "0", 4}, {"0", "0", "0", 5}, {"0", "0", "0", 6}}},
		{api.FLink, 12, -1, []Side{{"", "", s, 0}, {"0", "0", "0", 6}, {"0", "0", "0", 5}, {"0", "0", "0", 4}, {"0", s, "0", 3}, {s, bad, "0", 2}, {s, "", s, 1}}},
		{api.FLink, 9, 1, []Side{{"", "", s, 0}, {s, "", s, 1}, {s, s, s, 2}, {s, s, s, 3}, {s, bad, "0", 4}, {"0", s, "0", 5}, {"0", "0", "0", 6}}},
		{api.FLink, 13, 1, []Side{{"", "", s, 0}, {s, "", s, 1}, {s, s, s, 2}, {s, s, s, 3}, {s, s, s, 4}, {s, s, s, 5}, {s, s, s, 6}}},
		{api.FLink, 13, -1, []Side{{"", "", s, 0}, {s, s, s, 6}, {s, s, s, 5}, {s, s, s, 4}, {s, s, s, 3}, {s, s, s, 2}, {s, "", s, 1}}},
	} {
		k := plain(network(7), 0, x.dir, s)
		k.f = says(x.kind, x.at, bad)
		sidesAre(t, k, x.want)
	}
}

// The same of a pair slot, nodes 3 and 4 sending alike.
func TestP901LocusOfAPair(t *testing.T) {
	s, bad := "0110#", "00#"
	for _, x := range []struct {
		kind, at, dir int
		want          []Side // in the order of the way, no owners
	}{
		{api.FNode, 4, 1, []Side{{bad, s, "0", 1}, {"0", bad, "0", 2}, {"0", "0", "0", 3}, {"0", "0", "0", 4}}},
		{api.FNode, 3, 1, []Side{{s, bad, "0", 1}, {"0", s, "0", 2}, {"0", "0", "0", 3}, {"0", "0", "0", 4}}},
		{api.FNode, 4, -1, []Side{{s, bad, "0", 1}, {"0", s, "0", 2}, {"0", "0", "0", 3}, {"0", "0", "0", 4}}},
		{api.FNode, 5, 1, []Side{{s, s, s, 1}, {bad, s, "0", 2}, {"0", bad, "0", 3}, {"0", "0", "0", 4}}},
		{api.FNode, 2, 1, []Side{{s, s, s, 1}, {s, s, s, 2}, {s, s, s, 3}, {s, s, s, 4}}},
		{api.FLink, 3, 1, []Side{{s, s, s, 1}, {s, s, s, 2}, {s, s, s, 3}, {s, s, s, 4}}}, // between the two owners
		{api.FLink, 4, 1, []Side{{bad, s, "0", 1}, {"0", s, "0", 2}, {"0", "0", "0", 3}, {"0", "0", "0", 4}}},
		{api.FLink, 9, 1, []Side{{s, bad, "0", 1}, {"0", s, "0", 2}, {"0", "0", "0", 3}, {"0", "0", "0", 4}}},
		{api.FLink, 10, 1, []Side{{s, s, s, 1}, {s, bad, "0", 2}, {"0", s, "0", 3}, {"0", "0", "0", 4}}},
		{api.FLink, 2, -1, []Side{{bad, s, "0", 1}, {"0", s, "0", 2}, {"0", "0", "0", 3}, {"0", "0", "0", 4}}},
		{api.FLink, 8, -1, []Side{{s, bad, "0", 1}, {"0", s, "0", 2}, {"0", "0", "0", 3}, {"0", "0", "0", 4}}},
	} {
		k := plain(network(6, 3), 6, x.dir, s, s)
		k.f = says(x.kind, x.at, bad)
		want := []Side{3: {Out: s}, 4: {Out: s}, 5: {}}
		way := []int{5, 0, 1, 2}
		if x.dir == -1 {
			way = []int{2, 1, 0, 5}
		}
		for i, node := range way {
			want[node] = x.want[i]
		}
		sidesAre(t, k, want)
	}
}

// From a node that the slot has not reached nothing comes, though the locus would send whatever is asked of it.
func TestP901NothingComesFromBehind(t *testing.T) {
	for n := api.MinNodes; n <= api.MaxNodes; n++ {
		for _, dir := range directions {
			for slot := range n {
				for kind, places := range map[int]int{api.FNode: n, api.FLink: 2 * n} {
					for at := range places {
						k := plain(network(n), slot, dir, "01#")
						k.f = says(kind, at, "1#")
						for node, s := range k.run() {
							if s.Far == 1 && s.Skip != "" {
								t.Errorf("%v: node %d: %s", k, node, show(s))
							}
						}
					}
				}
			}
		}
	}
}

// What a locus makes of what it hears where that is nothing.
func TestP901LocusBehindNothing(t *testing.T) {
	k := plain(network(6), 0, 1, "")
	k.f = says(api.FNode, 2, "01#")
	sidesAre(t, k, []Side{{}, {Far: 1}, {Far: 2}, {Direct: "01#", Far: 3}, {Skip: "01#", Far: 4}, {Far: 5}})
	k.f.At = 0
	sidesAre(t, k, []Side{{}, {"01#", "", "01#", 1}, {"01#", "01#", "01#", 2}, {"01#", "01#", "01#", 3}, {"01#", "01#", "01#", 4}, {"01#", "01#", "01#", 5}})
	// It is off: what it is said to have passed on is nothing, what comes from it is not.
	k.f.At, k.states[2], k.sends = 2, api.SOff, []string{"01#"}
	sidesAre(t, k, []Side{{Out: "01#"}, {"01#", "", "01#", 1}, {"01#", "01#", "", 2}, {"01#", "01#", "01#", 3}, {"01#", "01#", "01#", 4}, {"01#", "01#", "01#", 5}})
}

// A locus is silent ahead of its rounds, does what its acts say in them, and is like any other behind them.
func TestP901Rounds(t *testing.T) {
	for _, x := range []struct {
		round  int
		direct string
	}{{0, ""}, {3, ""}, {4, "00#"}, {5, "00#"}, {48, "00#"}, {49, "00#"}, {50, "01#"}, {51, "01#"}, {1000, "01#"}} {
		k := plain(network(6), 1, 1, "01#")
		k.f, k.round = says(api.FNode, 3, "00#"), x.round
		k.f.From = 4
		if got := k.run()[4].Direct; got != x.direct {
			t.Errorf("%v: node 4 heard %q, want %q", k, got, x.direct)
		}
		k.f.Kind, k.f.At = api.FLink, 6+2 // from 2 to 4
		if got := k.run()[4].Skip; got != x.direct {
			t.Errorf("%v: node 4 heard %q by the far link, want %q", k, got, x.direct)
		}
		k.f.At = 1 // from 1 to 2
		if got := k.run()[2].Direct; got != x.direct {
			t.Errorf("%v: node 2 heard %q, want %q", k, got, x.direct)
		}
	}
}

// Silent: no acts, or the rounds not begun.
func TestP901SilentLocus(t *testing.T) {
	s := "01#"
	for _, silent := range []api.Fault{{To: 50}, {From: 6, To: 50, Acts: []api.Act{{How: 1}}}, {To: 50, Acts: []api.Act{{}}}} {
		k := plain(network(6), 0, 1, s)
		k.f = silent
		k.f.Kind, k.f.At = api.FNode, 0
		sidesAre(t, k, []Side{{Out: s}, {Far: 1}, {Far: 2}, {Far: 3}, {Far: 4}, {Far: 5}})
		k.f.At = 3
		sidesAre(t, k, []Side{{Out: s}, {s, "", s, 1}, {s, s, s, 2}, {s, s, s, 3}, {"", s, "", 4}, {"", "", "", 5}})
		k.f.Kind, k.f.At = api.FLink, 0
		sidesAre(t, k, []Side{{Out: s}, {Far: 1}, {Skip: s, Far: 2}, {Far: 3}, {Far: 4}, {Far: 5}})
		k.f.At = 6
		sidesAre(t, k, []Side{{Out: s}, {s, "", s, 1}, {s, "", "", 2}, {"", s, "", 3}, {"", "", "", 4}, {"", "", "", 5}})
	}
}

// The act is picked by the round, the slot and the node to which it goes, and not by what it comes from.
func TestP901WhichAct(t *testing.T) {
	var acts []api.Act
	for i := range 40 {
		acts = append(acts, api.Act{How: 3, Text: strings.Repeat("0", i) + "#"})
	}
	for _, dir := range directions {
		for round := range 20 {
			for slot := range 9 {
				for at := range 7 {
					k := plain(network(7, 2, 6), slot, dir, "01#", "01#")
					k.round, k.f = round, api.Fault{Kind: api.FNode, At: at, To: 50, Acts: acts}
					for node, s := range k.run() {
						want := strings.Repeat("0", (17*round+5*slot+node)%40) + "#"
						back1, back2 := ((node-dir)%7+7)%7, ((node-2*dir)%7+7)%7
						if s.Far > 0 && back1 == at && s.Direct != want {
							t.Fatalf("%v: node %d heard %q, want %q", k, node, s.Direct, want)
						}
						if (s.Far > 1 || s.Far == 1 && slot > 6) && back2 == at && s.Skip != want {
							t.Fatalf("%v: node %d heard %q by the far link, want %q", k, node, s.Skip, want)
						}
					}
				}
			}
		}
	}
}

// A locus that makes frames of its own is asked with the round, the slot and what was to be sent.
func TestP901ForgedFrames(t *testing.T) {
	c := network(6, 3)
	sent := api.Frame{Kind: api.KData, Round: 14, Slot: 6, Pay: api.Item{Kind: api.IVal, V: 7}}
	forged := sent
	forged.Pay.V = 8
	k := plain(c, 6, 1, frame.Text(c, sent), frame.Text(c, sent))
	k.f = api.Fault{Kind: api.FLink, At: 4, To: 50, Acts: []api.Act{{How: 5, N: 8}}}
	if got, want := k.run()[5].Direct, frame.Text(c, forged); got != want {
		t.Errorf("%v: %q, want %q", k, got, want)
	}
	// Of nothing: a frame of that round and slot.
	k.sends = []string{"", ""}
	if got, want := k.run()[5].Direct, frame.Text(c, forged); got != want {
		t.Errorf("%v: %q, want %q", k, got, want)
	}
}

// What is handed in as a stream, and is none, goes round as far as it is one.
func TestP901StreamsThatAreNone(t *testing.T) {
	for _, x := range [][2]string{{"01x1#", "01"}, {"01#1", "01#"}, {"x", ""}, {"\xff", ""}, {"0é#", "0"}, {"01.", "01"}, {"1\x00", "1"}, {"##", "#"}, {"0\xb01", "0"}} {
		for _, dir := range directions {
			for slot := range 7 {
				for node, s := range plain(network(6, 4), slot, dir, x[0], x[0]).run() {
					if s.Far == 0 {
						continue
					}
					if s.Direct != x[1] || s.Out != x[1] || s.Skip != x[1] && (s.Far > 1 || slot == 6) {
						t.Errorf("%q: slot %d, dir %d, node %d: %s, want %q", x[0], slot, dir, node, show(s), x[1])
					}
				}
			}
		}
	}
}

// byDocument says P901 in another way than the package's: of one node, asking back from it to the owners.
func byDocument(k task, node int) Side {
	owners := conf.Owners(k.c, k.slot)
	if i := slices.Index(owners, node); i >= 0 {
		return Side{Out: k.sends[i]}
	}
	if len(owners) == 0 {
		return Side{}
	}
	place := farOf(k, owners, node)
	s := Side{Far: place}
	for _, steps := range []int{1, 2} {
		from := ((node-steps*k.dir)%k.c.N + k.c.N) % k.c.N
		if !slices.Contains(owners, from) && farOf(k, owners, from) > place {
			continue
		}
		text := fault.Emit(k.c, k.f, k.round, k.slot, from, node, byDocument(k, from).Out)
		if steps == 2 {
			s.Skip = streamOf(text)
		} else if place > 1 || k.states[node] != 4 || -2*k.c.Pi <= k.devs[node] && k.devs[node] <= 2*k.c.Pi {
			s.Direct = streamOf(text)
		}
	}
	if k.states[node] == 0 {
		return s
	}
	s.Out = s.Direct
	if place > 1 || len(owners) == 2 {
		for !strings.HasPrefix(s.Skip, s.Out) {
			s.Out = s.Out[:len(s.Out)-1]
		}
	}
	return s
}

func allByDocument(k task) []Side {
	var sides []Side
	for node := range k.c.N {
		sides = append(sides, byDocument(k, node))
	}
	return sides
}

// farOf counts the steps from the owner that is last in that direction.
func farOf(k task, owners []int, node int) int {
	from := owners[len(owners)-1]
	if k.dir == -1 {
		from = owners[0]
	}
	steps := 0
	for from != node {
		from = ((from+k.dir)%k.c.N + k.c.N) % k.c.N
		steps++
	}
	return steps
}

func streamOf(s string) string {
	symbols := s[:len(s)-len(strings.TrimLeft(s, "01"))]
	if strings.HasPrefix(s[len(symbols):], "#") {
		return symbols + "#"
	}
	return symbols
}

// die throws.
type die struct{ n uint64 }

func (d *die) of(sides int) int {
	d.n = d.n*6364136223846793005 + 1442695040888963407
	return int(d.n>>33) % sides
}

func (d *die) stream() string {
	text := ""
	for range d.of(6) {
		text += string("01"[d.of(2)])
	}
	return text + "#"[:d.of(2)]
}

func (d *die) fault(c api.Conf) api.Fault {
	f := api.Fault{Kind: d.of(3), From: d.of(4)}
	f.To = f.From + d.of(40)
	f.At = [...]int{0, d.of(c.N), d.of(2 * c.N)}[f.Kind]
	for range d.of(5) {
		f.Acts = append(f.Acts, api.Act{How: d.of(9) - 1, N: d.of(600) - 300, Text: d.stream() + "x"[:d.of(2)]})
	}
	return f
}

// task is any that may be.
func (d *die) task() task {
	c := network(6 + d.of(7))
	for range d.of(4) {
		c.Pairs = append(c.Pairs, d.of(c.N+1)-1)
	}
	k := task{c: c, f: d.fault(c), round: d.of(44), slot: d.of(conf.Slots(c)), dir: directions[d.of(2)]}
	k.sends = []string{d.stream(), d.stream()}
	if d.of(2) == 0 {
		k.sends[1] = k.sends[0]
	}
	k.sends = k.sends[:len(conf.Owners(c, k.slot))]
	for range c.N {
		k.states = append(k.states, [...]int{0, 1, 2, 3, 4, 4, 4, 4, 4, 4, 4, 4, 4}[d.of(13)])
		k.devs = append(k.devs, [...]int{0, 5, -7, window, -window, window + 1, -window - 1}[d.of(7)])
	}
	return k
}

func TestP901EachByTheDocument(t *testing.T) {
	d := &die{9}
	for range 20000 {
		k := d.task()
		if conf.Check(k.c) != api.OK || fault.Check(k.c, k.f) != api.OK {
			t.Fatalf("%v: may not be", k)
		}
		sidesAre(t, k, allByDocument(k))
		if t.Failed() {
			return
		}
	}
}

// contained asks of a slot whose owners are right, and send alike, that each right node passes on a front of that; of none that it leaves out.
func contained(t *testing.T, k task, left int) {
	t.Helper()
	for node, s := range k.run() {
		if fault.Right(k.c, k.f, k.round, node) && node != left && !strings.HasPrefix(k.sends[0], s.Out) {
			t.Fatalf("%v: node %d passes on %q", k, node, s.Out)
		}
	}
}

// acts are those that make something of whatever comes, and each by itself.
func acts() [][]api.Act {
	all := [][]api.Act{nil}
	var both []api.Act
	for how := range 7 {
		for _, n := range []int{0, 1, 3, 200} {
			a := api.Act{How: how, N: n, Text: "0111#"}
			both = append(both, a)
			all = append(all, []api.Act{a})
		}
	}
	return append(all, both)
}

func TestP902OwnSlotContained(t *testing.T) {
	for _, n := range []int{6, 7, 12} {
		for _, act := range acts() {
			for at := range 3 * n {
				f := api.Fault{Kind: api.FNode, At: at, From: 2, To: 50, Acts: act}
				if at >= n {
					f.Kind, f.At = api.FLink, at-n
				}
				for slot := range n {
					for _, dir := range directions {
						for _, round := range []int{1, 2, 7, 50} {
							k := plain(network(n), slot, dir, "011010#")
							k.f, k.round = f, round
							if !fault.Right(k.c, f, round, slot) {
								continue
							}
							beside := ((slot+dir)%n + n) % n
							left := -1
							if f.Kind == api.FLink && fault.Hits(k.c, f, slot, beside) {
								left = beside // that one may pass on what comes by the link
							}
							contained(t, k, left)
						}
					}
				}
			}
		}
	}
}

// Of a pair of right ones that send alike there is no such link: the first one hears both.
func TestP902PairSlotContained(t *testing.T) {
	for _, n := range []int{6, 9} {
		for _, act := range acts() {
			for at := range 3 * n {
				f := api.Fault{Kind: api.FNode, At: at, To: 50, Acts: act}
				if at >= n {
					f.Kind, f.At = api.FLink, at-n
				}
				for _, dir := range directions {
					for _, sent := range []string{"011010#", "01", ""} {
						k := plain(network(n, 2, n-1), n+at%2, dir, sent, sent)
						k.f = f
						owners := conf.Owners(k.c, k.slot)
						if fault.Right(k.c, f, k.round, owners[0]) && fault.Right(k.c, f, k.round, owners[1]) {
							contained(t, k, -1)
						}
					}
				}
			}
		}
	}
}

// Whatever states and clocks there are.
func TestP902AnyNodesContained(t *testing.T) {
	d := &die{902}
	for range 20000 {
		k := d.task()
		owners := conf.Owners(k.c, k.slot)
		if len(owners) != 1 || !fault.Right(k.c, k.f, k.round, k.slot) {
			continue
		}
		beside := ((k.slot+k.dir)%k.c.N + k.c.N) % k.c.N
		if k.f.Kind == api.FLink && fault.Hits(k.c, k.f, k.slot, beside) {
			continue
		}
		contained(t, k, -1)
	}
}

// T2: of a slot in which nobody sends right nodes pass on nothing, the locus being none of its owners, nor a link beside the one of them.
func TestP902NothingOfNothing(t *testing.T) {
	for _, act := range acts() {
		for at := range 18 {
			f := api.Fault{Kind: api.FNode, At: at, To: 50, Acts: act}
			if at >= 6 {
				f.Kind, f.At = api.FLink, at-6
			}
			for slot := range 8 {
				for _, dir := range directions {
					k := plain(network(6, 5, -1), slot, dir, "", "")
					k.f = f
					beside := slot < 6 && f.Kind == api.FLink && fault.Hits(k.c, f, slot, ((slot+dir)%6+6)%6)
					if f.Kind == api.FNode && slices.Contains(conf.Owners(k.c, slot), f.At) || beside {
						continue
					}
					contained(t, k, -1)
				}
			}
		}
	}
}

// extremes are the least and the greatest numbers there are, those near them, and some between.
func extremes() []int {
	return []int{math.MinInt, math.MinInt + 1, math.MinInt32, -1 << 40, -2, -1, 0, 1, 2, 3, 5, 6, 11, 12, 13, 1000, 1 << 40, math.MaxInt32, math.MaxInt - 1, math.MaxInt}
}

// Of numbers that may not be only this is promised: each call ends, and none panics.
func TestP1AnyNumbers(t *testing.T) {
	for _, x := range extremes() {
		for _, y := range extremes() {
			for _, f := range []api.Fault{{}, says(api.FNode, 2, "01#"), says(api.FLink, 2, "01#"), {Kind: x, At: y, From: y, To: x, Acts: []api.Act{{How: x, N: y, Text: "é#"}}}} {
				for _, n := range []int{6, 7, 12} {
					k := plain(network(n, 1, n-1, -1), x, y, "01#", "01#")
					k.f = f
					k.run()
					k.slot, k.dir, k.round = n, y, x
					k.run()
					k.slot, k.dir, k.states, k.devs = x, 1, times(n, y), times(n, x)
					k.run()
					k.slot, k.dir = n+1, -1
					k.run()
				}
			}
		}
	}
}

func TestP1AnyNetwork(t *testing.T) {
	for _, x := range extremes() {
		for _, y := range extremes() {
			for _, c := range []api.Conf{
				{N: x, Pi: 100, Pairs: []int{y}},
				{N: 7, Pi: x, E: y},
				{N: 7, Pi: 100, G: x, First: y, Pairs: []int{x, y}},
				{N: 6, Pi: 100, Pairs: []int{x, y, x, y, 0}},
				{N: x, Pi: x, E: x, G: y, First: y, Pairs: []int{y, x, -1, 0, 1}},
			} {
				for _, slot := range []int{-1, 0, 5, 6, 7, 8, 10, x, y} {
					for _, dir := range []int{1, -1, 0, y} {
						Run(c, says(api.FNode, 0, "01#"), 3, slot, dir, []string{"01#", "0"}, times(7, 4), times(7, 0))
						Run(c, api.Fault{Kind: x, At: y}, 3, slot, dir, nil, nil, nil)
					}
				}
			}
		}
	}
}

// What is no direction is refused, and not taken as one that is near it; what is no slot has no owners.
func TestP9NoDirectionsAndNoSlots(t *testing.T) {
	for _, x := range extremes() {
		k := plain(network(6, 3), 0, x, "01#")
		if x != 1 && x != -1 {
			sidesAre(t, k, nil)
		}
		if k.slot, k.dir = x, 1; x < 0 || x > 6 {
			sidesAre(t, k, make([]Side, 6))
		}
	}
}

// Fewer sends, states or clocks than there are owners or nodes, none, and more than those.
func TestP1RowsOfAnyLength(t *testing.T) {
	for _, slot := range []int{0, 5, 6, 7} {
		for _, dir := range directions {
			for sends := range 5 {
				for states := range 9 {
					for devs := range 9 {
						for _, f := range []api.Fault{{}, says(api.FNode, 5, "01#"), says(api.FLink, 5, "01#")} {
							k := plain(network(6, 5, -1), slot, dir, slices.Repeat([]string{"01#"}, sends)...)
							k.states, k.devs, k.f = times(states, api.SActive), times(devs, window), f
							k.run()
						}
					}
				}
			}
		}
	}
}

// More than there are owners and nodes is not asked for.
func TestP901RowsThatAreLonger(t *testing.T) {
	for slot := range 8 {
		for _, dir := range directions {
			just := plain(network(6, 2, -1), slot, dir, "01#", "010#")
			want := just.run()
			just.sends = append(just.sends, "111", "1")
			just.states, just.devs = append(just.states, 0, 1), append(just.devs, 9, 9000)
			sidesAre(t, just, want)
		}
	}
}

func TestP1LongTexts(t *testing.T) {
	for _, s := range []string{strings.Repeat("01", 1<<16) + "#", strings.Repeat("\xfe", 1<<17), strings.Repeat("0é", 1<<16)} {
		for _, slot := range []int{0, 6} {
			for _, f := range []api.Fault{{}, says(api.FNode, 5, s), {Kind: api.FNode, At: 2, To: 50, Acts: []api.Act{{How: 4, N: -1}}}} {
				k := plain(network(6, 2), slot, 1, s, s)
				k.f = f
				k.run()
			}
		}
	}
}

func TestP2NothingHandedInIsChanged(t *testing.T) {
	room := func() task {
		k := plain(api.Conf{N: 6, Pi: 100, Pairs: []int{2, -1, 77, 78}[:2]}, 0, 1, "01#", "01#", "spare")
		k.sends = k.sends[:2]
		k.states, k.devs = append(k.states, 4, 5)[:6], append(k.devs, 6, 7)[:6]
		k.f = says(api.FNode, 3, "00#x")
		k.f.Acts = append(k.f.Acts, api.Act{How: 9, N: 9, Text: "spare"})[:1]
		k.f.Devs = []int{1, 2, 3, 99}[:3]
		return k
	}
	k, was := room(), room()
	for slot := -1; slot < 9; slot++ {
		for _, dir := range directions {
			k.slot, k.dir = slot, dir
			k.run()
		}
	}
	same := slices.Equal(k.c.Pairs[:4], was.c.Pairs[:4]) && slices.Equal(k.sends[:3], was.sends[:3])
	same = same && slices.Equal(k.states[:8], was.states[:8]) && slices.Equal(k.devs[:8], was.devs[:8])
	if !same || !slices.Equal(k.f.Acts[:2], was.f.Acts[:2]) || !slices.Equal(k.f.Devs[:4], was.f.Devs[:4]) {
		t.Errorf("what was handed in is %v now", k)
	}
}

// Nothing of an answer is memory of an argument, of another answer, or stands in it twice.
func TestP2AnswersAreNewMemory(t *testing.T) {
	d := &die{2}
	for range 500 {
		k := d.task()
		taken := map[*byte]int{}
		for _, s := range k.sends {
			taken[unsafe.StringData(s)]++
		}
		for _, a := range k.f.Acts {
			taken[unsafe.StringData(a.Text)]++
		}
		// Both are held on to, so that none of their memory can be used again.
		both := [][]Side{k.run(), k.run()}
		for _, sides := range both {
			for node, s := range sides {
				for _, text := range []string{s.Direct, s.Skip, s.Out} {
					if text == "" {
						continue
					}
					if taken[unsafe.StringData(text)]++; taken[unsafe.StringData(text)] > 1 && len(text) > 1 {
						t.Fatalf("%v: node %d: %q is old memory", k, node, text)
					}
				}
			}
		}
		if len(both[0]) > 0 && &both[0][0] == &both[1][0] {
			t.Fatalf("%v: two answers are one", k)
		}
		want := slices.Clone(both[0])
		clear(both[1][:cap(both[1])])
		sidesAre(t, k, want)
		if !slices.Equal(both[0], want) {
			t.Fatalf("%v: one answer is changed by what is done to another", k)
		}
	}
}

// What was handed in may be changed behind the call: the answer stays.
func TestP2NothingIsKept(t *testing.T) {
	k := plain(network(6, 2), 0, 1, "01#")
	k.f = says(api.FNode, 3, "00#")
	got := k.run()
	want := slices.Clone(got)
	k.sends[0], k.f.Acts[0].Text, k.states[1], k.devs[1], k.c.Pairs[0] = "1", "1", 0, 900, 0
	if !slices.Equal(got, want) {
		t.Errorf("%v: the answer is %+v now, was %+v", k, got, want)
	}
}

func TestP2NoListAndAnEmptyOneAreTheSame(t *testing.T) {
	none := task{c: network(6), round: 3, slot: 2, dir: 1, f: api.Fault{Kind: api.FNode, At: 4, To: 9}}
	empty := none
	empty.c.Pairs, empty.f.Acts, empty.f.Devs = []int{}, []api.Act{}, []int{}
	empty.sends, empty.states, empty.devs = []string{}, []int{}, []int{}
	for slot := -1; slot < 7; slot++ {
		none.slot, empty.slot = slot, slot
		if !slices.Equal(none.run(), empty.run()) {
			t.Errorf("slot %d: no list and an empty one are told apart", slot)
		}
	}
}

// Asked again, in the other order, and among others, all is answered as it was.
func TestP3TheSameAgain(t *testing.T) {
	d := &die{3}
	var tasks []task
	var first [][]Side
	for range 500 {
		k := d.task()
		tasks, first = append(tasks, k), append(first, k.run())
	}
	for i := len(tasks) - 1; i >= 0; i-- {
		sidesAre(t, tasks[i], first[i])
	}
}

func FuzzRun(f *testing.F) {
	f.Add(uint64(1), 1, 0, 1, 0, "01#", 6)
	f.Add(uint64(77), -1, 6, -1, 5, "é", 12)
	f.Add(uint64(3), 0, -9, math.MinInt, math.MaxInt, "01\xff", math.MaxInt)
	f.Fuzz(func(t *testing.T, seed uint64, round, slot, dir, dev int, s string, n int) {
		d := &die{seed}
		k := d.task()
		if len(k.sends) > 0 {
			k.sends[0] = streamOf(s)
		}
		k.devs[d.of(k.c.N)] = dev
		sidesAre(t, k, allByDocument(k))
		k.round, k.slot, k.dir, k.sends = round, slot, dir, []string{s, s}
		k.run()
		k.c.N, k.f.At, k.f.Kind = n, dev, dir
		k.run()
	})
}

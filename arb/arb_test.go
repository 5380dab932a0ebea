package arb

import (
	"math"
	"slices"
	"strconv"
	"strings"
	"testing"
	"unsafe"

	"plaiting/api"
	"plaiting/conf"
	"plaiting/crc"
	"plaiting/fault"
	"plaiting/frame"
	"plaiting/spread"
	"plaiting/sym"
)

// network is one of n nodes with some pairs; its wire's rounds begin at 9.
func network(n int, pairs ...int) api.Conf {
	return api.Conf{N: n, Pi: 100, E: 2, G: 2, First: 9, Pairs: pairs}
}

// sizes are networks of every size, with as many pairs as there may be, or fewer.
func sizes() []api.Conf {
	var all []api.Conf
	for n := api.MinNodes; n <= api.MaxNodes; n++ {
		all = append(all, network(n, []int{n - 1, -1, 2}[:n%4]...))
	}
	return all
}

// data is a frame of data with a payload, sent in a round.
func data(c api.Conf, round, slot, v int) api.Frame {
	f := api.Frame{Kind: api.KData, Round: (c.First + round) % 65536, Slot: slot, Pay: api.Item{Kind: api.IVal, V: v}}
	if slot < c.N {
		f.Echo = slices.Repeat([]api.Item{{Kind: api.INull}}, c.N+len(c.Pairs))
	}
	return f
}

func text(c api.Conf, round, slot, v int) string {
	return frame.Text(c, data(c, round, slot, v))
}

// frames are some of each kind that may be sent in a slot, no two alike.
func frames(c api.Conf, round, slot int) []api.Frame {
	one, null, echoes := data(c, round, slot, 0), data(c, round, slot, 0), data(c, round, slot, 0)
	null.Pay = api.Item{Kind: api.INull}
	all := []api.Frame{one, null, data(c, round, slot, 255)}
	if slot < c.N {
		for place := range echoes.Echo {
			f := data(c, round, slot, 0)
			f.Echo[place] = api.Item{Kind: api.IVal, V: place}
			all = append(all, f)
		}
		wire := one.Round
		all = append(all, api.Frame{Kind: api.KCold, Round: wire, Slot: slot}, api.Frame{Kind: api.KSync, Round: wire, Slot: slot})
	}
	return all
}

// answerIs holds what a call answered against the text of the frame that it should be: of none all must be zero.
func answerIs(t *testing.T, c api.Conf, what string, got api.Frame, is bool, want string) {
	t.Helper()
	switch {
	case want == "" && (is || got.Kind != 0 || got.Round != 0 || got.Slot != 0 || got.Pay != api.Item{} || len(got.Echo) != 0):
		t.Errorf("%s = %v, %v, want nothing", what, got, is)
	case want != "" && (!is || frame.Text(c, got) != want):
		t.Errorf("%s = %v, %v, want what %s is", what, got, is, want)
	}
}

func rightIs(t *testing.T, c api.Conf, round, slot int, s string, want bool) {
	t.Helper()
	got, is := Right(c, round, slot, s)
	answerIs(t, c, "Right(round "+strconv.Itoa(round)+", slot "+strconv.Itoa(slot)+", "+s+")", got, is, map[bool]string{true: s}[want])
}

func show(s spread.Side) string {
	return strings.Join([]string{"{far", strconv.Itoa(s.Far), "direct", strconv.Quote(s.Direct), "skip", strconv.Quote(s.Skip), "out", strconv.Quote(s.Out) + "}"}, " ")
}

func pickIs(t *testing.T, c api.Conf, round, slot int, a, b spread.Side, want string) {
	t.Helper()
	got, is := Pick(c, round, slot, a, b)
	answerIs(t, c, "Pick(round "+strconv.Itoa(round)+", slot "+strconv.Itoa(slot)+", "+show(a)+", "+show(b)+")", got, is, want)
}

func TestP1001RightOfEachFrame(t *testing.T) {
	for _, c := range sizes() {
		for slot := range conf.Slots(c) {
			for _, round := range []int{0, 1, 200, 65526, 65527, 1 << 30} {
				for _, f := range frames(c, round, slot) {
					got, is := Right(c, round, slot, frame.Text(c, f))
					if !is || !frame.Same(got, f) {
						t.Fatalf("%v: round %d: %v, %v, want %v", c, round, got, is, f)
					}
				}
			}
		}
	}
}

// A frame of another round is none, but of those a whole wrap of the wire's on or back.
func TestP1001RightOfOtherRounds(t *testing.T) {
	for _, first := range []int{0, 9, 65530, 65535} {
		c := network(6, 2)
		c.First = first
		for _, slot := range []int{0, 5, 6} {
			for _, sent := range []int{0, 1, 5, 6, 65535, 65536, 70000} {
				for _, f := range frames(c, sent, slot) {
					s := frame.Text(c, f)
					for _, off := range []int{0, 1, -1, 2, 16, 255, 256, -256, 32768, -32768, 65535, 65536, -65536, 65537, 131072, 1 << 29} {
						if round := sent + off; round >= 0 {
							rightIs(t, c, round, slot, s, off%65536 == 0)
						}
					}
				}
			}
		}
	}
}

func TestP1001RightOfOtherSlots(t *testing.T) {
	for _, c := range sizes() {
		for sent := range conf.Slots(c) {
			for _, f := range frames(c, 4, sent) {
				s := frame.Text(c, f)
				for slot := -1; slot < conf.Slots(c)+3; slot++ {
					rightIs(t, c, 4, slot, s, slot == sent)
				}
				rightIs(t, c, 4, sent+64, s, false) // the wire's slots have six bits
				rightIs(t, c, 4, sent-64, s, false)
			}
		}
	}
}

// brokenOf answers texts that are near a frame's and are none.
func brokenOf(s string) []string {
	all := []string{"", "#", s[1:], "0" + s, "1" + s, s + "#", s + "0", s + " ", " " + s, s[:len(s)-1], s[:len(s)-2] + "#", s + s, strings.Repeat("0", 34), strings.Repeat("1", 16) + "#", "é" + s}
	for at := range s {
		all = append(all, s[:at], sym.Turn(s, at), s[:at]+"x"+s[at+1:], s[:at]+"\xff"+s[at+1:])
	}
	return all
}

func TestP1001RightOfTextsThatAreNone(t *testing.T) {
	for _, c := range []api.Conf{network(6), network(7, 1), network(12, 0, -1, 11)} {
		for _, slot := range []int{0, c.N - 1, conf.Slots(c) - 1} {
			for _, f := range frames(c, 4, slot)[:2] {
				for _, s := range brokenOf(frame.Text(c, f)) {
					rightIs(t, c, 4, slot, s, false)
				}
			}
		}
	}
}

// No frame is not the zero one, which would be of the wire's round 0 and slot 0.
func TestP1001NothingInTheFirstOfAllSlots(t *testing.T) {
	c := network(6)
	for first, round := range map[int]int{0: 0, 65535: 1, 1: 65535} {
		c.First = first
		for _, s := range brokenOf(text(c, round, 0, 1)) {
			rightIs(t, c, round, 0, s, false)
			for far := range 3 {
				pickIs(t, c, round, 0, spread.Side{Far: far, Direct: s, Skip: s, Out: s}, spread.Side{}, "")
			}
		}
		pickIs(t, c, round, 0, spread.Side{}, spread.Side{}, "")
		rightIs(t, c, round, 0, text(c, round, 0, 1), true)
	}
}

// A sum that is right does not make a frame of what may be none.
func TestP1001RightOfFramesThatMayNotBe(t *testing.T) {
	c := network(6, 2)
	own := data(c, 4, 3, 5)
	round := own.Round
	fewer, more, item := data(c, 4, 3, 5), data(c, 4, 3, 5), data(c, 4, 3, 5)
	fewer.Echo, more.Echo, item.Echo[2] = fewer.Echo[1:], append(more.Echo, api.Item{}), api.Item{Kind: 3}
	pairs := data(c, 4, 6, 5)
	pairs.Echo = own.Echo
	for _, f := range []api.Frame{
		{Kind: 0, Round: round, Slot: 3},
		{Kind: api.KCold, Round: round, Slot: 6},
		{Kind: api.KSync, Round: round, Slot: 6},
		{Kind: api.KSync, Round: round, Slot: 3, Pay: api.Item{Kind: api.INull}},
		{Kind: api.KCold, Round: round, Slot: 3, Pay: api.Item{V: 1}},
		{Kind: api.KCold, Round: round, Slot: 3, Echo: own.Echo},
		{Kind: api.KData, Round: round, Slot: 6},
		{Kind: api.KData, Round: round, Slot: 3, Pay: own.Pay},
		{Kind: api.KData, Round: round, Slot: 3, Echo: own.Echo},
		{Kind: api.KData, Round: round, Slot: 7, Pay: own.Pay},
		fewer, more, item, pairs,
	} {
		if frame.Check(c, f) == api.OK {
			t.Fatalf("%v may be", f)
		}
		rightIs(t, c, 4, f.Slot, frame.Text(c, f), false)
	}
	rightIs(t, c, 4, 3, frame.Text(c, own), true)
}

// What is a frame in one network may be none in another one.
func TestP1001RightOfOtherNetworks(t *testing.T) {
	c := network(7, 2)
	s, cold := text(c, 4, 3, 5), frame.Text(c, api.Frame{Kind: api.KCold, Round: 13, Slot: 3})
	other := c
	other.First = 10
	for _, x := range []struct {
		c       api.Conf
		s, cold bool
	}{{c, true, true}, {network(7, 6), true, true}, {network(8), true, true}, {network(7), false, true}, {network(7, 2, 2), false, true}, {network(8, 2), false, true}, {network(6), false, true}, {other, false, false}} {
		rightIs(t, x.c, 4, 3, s, x.s)
		rightIs(t, x.c, 4, 3, cold, x.cold)
	}
}

// only is a side that has but a compared copy, alone one that has but what came by its near link.
func only(far int, out string) spread.Side {
	return spread.Side{Far: far, Out: out}
}

func alone(far int, direct string) spread.Side {
	return spread.Side{Far: far, Direct: direct}
}

// both asks the same with the sides the other way round, too.
func both(t *testing.T, c api.Conf, slot int, a, b spread.Side, want string) {
	t.Helper()
	pickIs(t, c, 4, slot, a, b, want)
	pickIs(t, c, 4, slot, b, a, want)
}

// compares are how far nodes are that hold their links against each other.
func compares(c api.Conf, slot int) []int {
	if slot < c.N {
		return []int{2, 3, c.N - 2, c.N - 1}
	}
	return []int{1, 2, 3, c.N - 3, c.N - 2}
}

// wrong are texts that are not right in round 4 and a slot, though some of them are frames.
func wrong(c api.Conf, slot int) []string {
	other := (slot + 1) % conf.Slots(c)
	s := text(c, 4, slot, 1)
	return []string{"", "#", "0", s[1:], s + "#", s[:len(s)-1], sym.Turn(s, 3), text(c, 3, slot, 1), text(c, 5, slot, 1), text(c, 4, other, 1)}
}

func TestP1001PickTwoThatAreTheSame(t *testing.T) {
	for _, c := range sizes() {
		for slot := range conf.Slots(c) {
			for _, f := range frames(c, 4, slot) {
				s := frame.Text(c, f)
				for _, far := range compares(c, slot) {
					for _, other := range compares(c, slot) {
						pickIs(t, c, 4, slot, only(far, s), only(other, s), s)
					}
				}
			}
		}
	}
}

// Two that are right and not the same: nothing, wherever they differ.
func TestP1001PickTwoThatAreUnlike(t *testing.T) {
	for _, c := range []api.Conf{network(6, 2), network(7, 1, -1, 6)} {
		for slot := range conf.Slots(c) {
			all := frames(c, 4, slot)
			for i, f := range all {
				for _, g := range all[:i] {
					for _, far := range compares(c, slot) {
						for _, other := range compares(c, slot) {
							both(t, c, slot, only(far, frame.Text(c, f)), only(other, frame.Text(c, g)), "")
						}
					}
				}
			}
		}
	}
}

// Nor is there anything to take beside them: what came by a near link counts for nothing there.
func TestP1001PickTwoThatAreUnlikeWithDirects(t *testing.T) {
	c := network(6, 2)
	for slot := range 7 {
		one, two := text(c, 4, slot, 1), text(c, 4, slot, 2)
		for _, far := range compares(c, slot) {
			both(t, c, slot, spread.Side{Far: far, Direct: one, Skip: one, Out: one}, spread.Side{Far: 2, Direct: one, Skip: one, Out: two}, "")
		}
	}
}

func TestP1001PickOneThatIsRight(t *testing.T) {
	for _, c := range sizes() {
		for slot := range conf.Slots(c) {
			s := text(c, 4, slot, 1)
			for _, far := range compares(c, slot) {
				for _, bad := range wrong(c, slot) {
					both(t, c, slot, only(far, s), only(2, bad), s)
				}
				both(t, c, slot, only(far, s), only(0, ""), s)
				both(t, c, slot, only(far, s), only(0, s), s)
				both(t, c, slot, only(far, s), only(0, text(c, 4, slot, 2)), s)
				both(t, c, slot, only(far, s), only(-1, text(c, 4, slot, 2)), s)
			}
		}
	}
}

// One that was compared goes ahead of one that was not, whatever that says, in a node's own slot.
func TestP1001PickComparedAheadOfDirect(t *testing.T) {
	for _, c := range sizes() {
		for slot := range c.N {
			s, other := text(c, 4, slot, 1), text(c, 4, slot, 2)
			for _, far := range compares(c, slot) {
				for _, direct := range append(wrong(c, slot), s, other) {
					both(t, c, slot, only(far, s), spread.Side{Far: 1, Direct: direct, Out: direct}, s)
				}
			}
		}
	}
}

// None that was compared is right: what came by a near link from the owner, in a node's own slot.
func TestP1001PickDirectOfOneSide(t *testing.T) {
	for _, c := range sizes() {
		for slot := range c.N {
			s := text(c, 4, slot, 1)
			for _, far := range append(compares(c, slot), 0, -1) {
				for _, bad := range wrong(c, slot) {
					both(t, c, slot, alone(1, s), only(far, bad), s)
					both(t, c, slot, spread.Side{Far: 1, Direct: s, Out: bad}, only(far, bad), s)
					both(t, c, slot, alone(1, bad), only(far, bad), "")
					both(t, c, slot, alone(1, s), alone(1, bad), s)
				}
			}
		}
	}
}

// Both sides are beside the owner: a's goes ahead of b's.
func TestP1001PickDirectOfBothSides(t *testing.T) {
	for _, c := range sizes() {
		for slot := range c.N {
			for _, f := range frames(c, 4, slot) {
				s := frame.Text(c, f)
				pickIs(t, c, 4, slot, alone(1, s), alone(1, s), s)
				for _, g := range frames(c, 4, slot) {
					pickIs(t, c, 4, slot, alone(1, s), alone(1, frame.Text(c, g)), s)
				}
			}
		}
	}
}

// In a pair's slot there is none of these: beside the owners, too, both links are held against each other.
func TestP1001PickNoDirectInAPairsSlot(t *testing.T) {
	for _, c := range []api.Conf{network(6, 2), network(7, 1, -1, 6), network(12, 3, 4)} {
		for slot := c.N; slot < conf.Slots(c); slot++ {
			s, other := text(c, 4, slot, 1), text(c, 4, slot, 2)
			for _, bad := range wrong(c, slot) {
				both(t, c, slot, alone(1, s), only(2, bad), "")
				both(t, c, slot, alone(1, s), alone(1, s), "")
				both(t, c, slot, spread.Side{Far: 1, Direct: s, Skip: s, Out: bad}, only(4, bad), "")
				both(t, c, slot, spread.Side{Far: 1, Direct: other, Skip: other, Out: s}, only(4, bad), s)
			}
			both(t, c, slot, spread.Side{Far: 1, Direct: s, Skip: s, Out: s}, only(4, other), "")
		}
	}
}

// An owner's side, and one of nobody's slot, is 0 far: it has nothing, nor has one that is no distance.
func TestP1001PickNothingOfZeroFar(t *testing.T) {
	c := network(6, 2, -1)
	for slot := range 8 {
		s := text(c, 4, slot, 1)
		full := spread.Side{Direct: s, Skip: s, Out: s}
		for _, far := range []int{0, -1, -2, -5, math.MinInt} {
			for _, other := range []int{0, -1, -2, math.MinInt + 1} {
				a, b := full, full
				a.Far, b.Far = far, other
				pickIs(t, c, 4, slot, a, b, "")
			}
		}
		pickIs(t, c, 4, slot, spread.Side{}, spread.Side{}, "")
	}
}

// Neither what came by a far link, nor by a near one of a side that compares, nor the Out of one that doesn't, is a copy.
func TestP1001PickNothingElse(t *testing.T) {
	c := network(8, 2)
	for slot := range 9 {
		s := text(c, 4, slot, 1)
		for _, far := range compares(c, slot) {
			full := spread.Side{Far: far, Direct: s, Skip: s}
			both(t, c, slot, full, full, "")
			both(t, c, slot, full, spread.Side{}, "")
		}
		if slot < 8 {
			full := spread.Side{Far: 1, Skip: s, Out: s}
			both(t, c, slot, full, full, "")
			both(t, c, slot, full, only(5, ""), "")
		}
	}
}

// Far is not held against how many nodes there are.
func TestP1001PickAnyFar(t *testing.T) {
	c := network(6, 2)
	for _, slot := range []int{0, 6} {
		s := text(c, 4, slot, 1)
		for _, far := range []int{2, 6, 12, 1000, 1 << 40, math.MaxInt} {
			both(t, c, slot, only(far, s), only(math.MaxInt, s), s)
			both(t, c, slot, only(far, s), only(math.MaxInt, ""), s)
		}
	}
}

// pickByDocument says P1001 in another way than the package's: by the two texts that are left of the sides.
func pickByDocument(c api.Conf, round, slot int, a, b spread.Side) string {
	right := func(s string) bool {
		f, e := frame.Read(c, s)
		return e == api.OK && f.Round == (c.First+round)%65536 && f.Slot == slot
	}
	out := func(s spread.Side) string {
		if s.Far >= 2 || s.Far == 1 && slot >= c.N {
			if right(s.Out) {
				return s.Out
			}
		}
		return ""
	}
	x, y := out(a), out(b)
	switch {
	case x != "" && y != "" && x == y:
		return x
	case x != "" && y != "":
		return ""
	case x != "" || y != "":
		return x + y
	case slot >= c.N:
		return ""
	}
	for _, s := range []spread.Side{a, b} {
		if s.Far == 1 && right(s.Direct) {
			return s.Direct
		}
	}
	return ""
}

// die throws.
type die struct{ n uint64 }

func (d *die) of(sides int) int {
	d.n = d.n*6364136223846793005 + 1442695040888963407
	return int(d.n>>33) % sides
}

func (d *die) conf() api.Conf {
	c := network(6 + d.of(7))
	for range d.of(4) {
		c.Pairs = append(c.Pairs, d.of(c.N+1)-1)
	}
	return c
}

// side is one whose texts are the frame's of that round and slot, mostly.
func (d *die) side(c api.Conf, round, slot int) spread.Side {
	word := func() string {
		switch d.of(6) {
		case 0:
			return ""
		case 1:
			return text(c, round+d.of(2), (slot+d.of(2))%conf.Slots(c), 1)
		case 2:
			s := text(c, round, slot, 1)
			return sym.Turn(s, d.of(len(s)))
		}
		return text(c, round, slot, d.of(2))
	}
	return spread.Side{Direct: word(), Skip: word(), Out: word(), Far: [...]int{0, 1, 1, 2, 3, -1}[d.of(6)]}
}

func TestP1001ByTheDocument(t *testing.T) {
	d := &die{10}
	for range 20000 {
		c := d.conf()
		round, slot := d.of(70000), d.of(conf.Slots(c))
		a, b := d.side(c, round, slot), d.side(c, round, slot)
		pickIs(t, c, round, slot, a, b, pickByDocument(c, round, slot, a, b))
		if t.Failed() {
			return
		}
	}
}

// loci are a locus at every place, doing one thing, from round 0 to 49.
func loci(c api.Conf, acts ...api.Act) []api.Fault {
	all := []api.Fault{{}}
	for at := range 3 * c.N {
		f := api.Fault{Kind: api.FNode, At: at, To: 50, Acts: acts}
		if at >= c.N {
			f.Kind, f.At = api.FLink, at-c.N
		}
		all = append(all, f)
	}
	return all
}

// manners are what a locus may do: say nothing, cut, turn, lie, send another frame that holds, of that round and slot or not.
func manners(c api.Conf, round, slot int) [][]api.Act {
	var all [][]api.Act
	for how := range 7 {
		all = append(all, []api.Act{{How: how, N: 77, Text: text(c, round, slot, 99)}})
	}
	return append(all, nil, []api.Act{{How: 3, Text: text(c, round+1, slot, 99)}}, []api.Act{{How: 3, Text: text(c, round, slot, 99)}, {How: 5, N: 98}, {How: 0}, {How: 1}})
}

// taken answers what each node takes of a slot that goes round: the texts, "" of nothing. All nodes are active and in step.
func taken(c api.Conf, f api.Fault, round, slot int, sends ...string) []string {
	states := slices.Repeat([]int{api.SActive}, c.N)
	up := spread.Run(c, f, round, slot, 1, sends, states, make([]int, c.N))
	down := spread.Run(c, f, round, slot, -1, sends, states, make([]int, c.N))
	all := make([]string, c.N)
	for node := range all {
		if got, is := Pick(c, round, slot, up[node], down[node]); is {
			all[node] = frame.Text(c, got)
		}
	}
	return all
}

// T1, as far as it bears: what a right node sends in its own slot each other right one takes, wherever the locus is, and whatever it does.
func TestP1001T1OwnSlotIsTakenByAll(t *testing.T) {
	for _, c := range []api.Conf{network(6, 2), network(7), network(9, 0, 8, -1)} {
		for slot := range c.N {
			s := text(c, 4, slot, 1)
			for _, acts := range manners(c, 4, slot) {
				for _, f := range loci(c, acts...) {
					if !fault.Right(c, f, 4, slot) {
						continue
					}
					for node, got := range taken(c, f, 4, slot, s) {
						if node != slot && fault.Right(c, f, 4, node) && got != s {
							t.Fatalf("%v: locus %d at %d, acts %v: slot %d: node %d takes %q", c, f.Kind, f.At, acts, slot, node, got)
						}
					}
				}
			}
		}
	}
}

// spoils tells whether a locus may make one of two unlike frames hold: a link, or one of the two nodes beside the owners.
func spoils(c api.Conf, f api.Fault, owners []int) bool {
	beside := []int{(owners[0] + c.N - 1) % c.N, (owners[1] + 1) % c.N}
	return f.Kind == api.FLink || f.Kind == api.FNode && slices.Contains(beside, f.At)
}

// T3, as far as it bears: of a pair's slot right nodes take what a right owner sent, or nothing; that, of two right ones that sent the same, if the locus is a node; nothing of two that sent unlike, if it is none that spoils that.
func TestP1001T3PairSlotIsContained(t *testing.T) {
	for _, c := range []api.Conf{network(6, 2), network(7, 6), network(9, 0, 8, -1)} {
		for slot := c.N; slot < conf.Slots(c); slot++ {
			owners := conf.Owners(c, slot)
			s, other := text(c, 4, slot, 1), text(c, 4, slot, 2)
			for _, acts := range manners(c, 4, slot) {
				for _, f := range loci(c, acts...) {
					same, unlike := taken(c, f, 4, slot, s, s), taken(c, f, 4, slot, s, other)
					for node := range c.N {
						if slices.Contains(owners, node) || !fault.Right(c, f, 4, node) {
							continue
						}
						ownersRight := len(owners) == 2 && fault.Right(c, f, 4, owners[0]) && fault.Right(c, f, 4, owners[1])
						if got := same[node]; got != s && (got != "" || ownersRight && f.Kind != api.FLink) {
							t.Fatalf("%v: locus %d at %d, acts %v: slot %d: node %d takes %q", c, f.Kind, f.At, acts, slot, node, got)
						}
						if got := unlike[node]; got != "" && ownersRight && !spoils(c, f, owners) {
							t.Fatalf("%v: locus %d at %d, acts %v: slot %d: node %d takes %q of unlike ones", c, f.Kind, f.At, acts, slot, node, got)
						}
					}
				}
			}
		}
	}
}

// extremes are the least and the greatest numbers there are, those near them, and some between.
func extremes() []int {
	return []int{math.MinInt, math.MinInt + 1, math.MinInt32, -1 << 40, -2, -1, 0, 1, 2, 3, 5, 6, 11, 12, 13, 1000, 1 << 30, 1<<30 + 1, 1 << 40, math.MaxInt32, math.MaxInt - 1, math.MaxInt}
}

// What is no round is refused, and not taken as one that comes to the same on the wire.
func TestP9NoRounds(t *testing.T) {
	c := network(6, 2)
	for slot := range 7 {
		for _, round := range []int{-1, -4, -65536, -1 << 40, 1<<30 + 1, 1 << 31, 1 << 40, math.MinInt, math.MaxInt} {
			f := data(c, 0, slot, 1)
			f.Round = conf.Wire(c, round)
			s := frame.Text(c, f)
			rightIs(t, c, round, slot, s, false)
			pickIs(t, c, round, slot, only(2, s), only(2, s), "")
			pickIs(t, c, round, slot, alone(1, s), alone(1, s), "")
		}
		rightIs(t, c, 0, slot, text(c, 0, slot, 1), true)
		rightIs(t, c, 1<<30, slot, text(c, 1<<30, slot, 1), true)
	}
}

func TestP9NoSlots(t *testing.T) {
	c := network(6, 2)
	for _, slot := range extremes() {
		if 0 <= slot && slot < 7 {
			continue
		}
		for sent := range 7 {
			s := text(c, 4, sent, 1)
			rightIs(t, c, 4, slot, s, false)
			for far := range 4 {
				full := spread.Side{Direct: s, Skip: s, Out: s, Far: far}
				pickIs(t, c, 4, slot, full, full, "")
			}
		}
	}
}

// Networks that may not be take nothing.
func TestP9NoNetworks(t *testing.T) {
	for _, change := range []func(c *api.Conf){
		func(c *api.Conf) { c.N = 5 },
		func(c *api.Conf) { c.N = 13 },
		func(c *api.Conf) { c.Pi = 1 },
		func(c *api.Conf) { c.First = -1 },
		func(c *api.Conf) { c.First = 65536 },
		func(c *api.Conf) { c.Pairs = []int{6} },
		func(c *api.Conf) { c.Pairs = []int{0, 0, 0, 0} },
	} {
		c := network(6, 2)
		change(&c)
		s := frame.Text(c, data(c, 4, 3, 1))
		rightIs(t, c, 4, 3, s, false)
		pickIs(t, c, 4, 3, only(2, s), only(2, s), "")
		pickIs(t, c, 4, 3, alone(1, s), alone(1, s), "")
	}
}

// Of what may not be only this is promised: each call ends, and none panics.
func TestP1AnyNumbers(t *testing.T) {
	s := text(network(6, 2), 4, 3, 1)
	for _, x := range extremes() {
		for _, y := range extremes() {
			for _, c := range []api.Conf{
				network(6, 2),
				{N: x, Pi: 100, Pairs: []int{y}},
				{N: 7, Pi: x, E: y},
				{N: 7, Pi: 100, G: x, First: y, Pairs: []int{x, y}},
				{N: 6, Pi: 100, Pairs: []int{x, y, x, y, 0}},
				{N: x, Pi: x, E: x, G: y, First: y, Pairs: []int{y, x, -1, 0, 1}},
			} {
				for _, z := range []int{-1, 0, 4, 6, x, y} {
					Right(c, x, y, s)
					Right(c, z, y, s)
					Right(c, z, 3, s)
					for _, a := range []spread.Side{{Direct: s, Skip: s, Out: s, Far: x}, {Direct: s, Out: s, Far: 1}, {}} {
						Pick(c, z, 3, a, spread.Side{Direct: s, Out: s, Far: y})
						Pick(c, x, y, a, spread.Side{Direct: s, Out: s, Far: z})
					}
				}
			}
		}
	}
}

func TestP1AnyTexts(t *testing.T) {
	c := network(6, 2)
	for _, s := range []string{strings.Repeat("01", 1<<16) + "#", strings.Repeat("\xfe", 1<<17), strings.Repeat("0é", 1<<16), crc.Wrap(strings.Repeat("0", 1<<16)), crc.Wrap("é"), crc.Wrap(""), crc.Wrap(strings.Repeat("1", 34)), "\x00", "０#"} {
		for _, slot := range []int{0, 6} {
			rightIs(t, c, 4, slot, s, false)
			for far := range 3 {
				full := spread.Side{Direct: s, Skip: s, Out: s, Far: far}
				pickIs(t, c, 4, slot, full, full, "")
			}
		}
	}
}

func TestP2NothingHandedInIsChanged(t *testing.T) {
	pairs := []int{2, -1, 77, 78}
	c := network(6, pairs[:2]...)
	for slot := range 8 {
		s := text(c, 4, slot, 1)
		Right(c, 4, slot, s)
		for far := range 3 {
			Pick(c, 4, slot, only(far, s), alone(1, s))
			Pick(c, 4, slot, only(far, s), only(2, s))
		}
	}
	if !slices.Equal(pairs, []int{2, -1, 77, 78}) {
		t.Errorf("the pairs are %v now", pairs)
	}
}

// Nothing of an answer is memory of another one, and what is done to one is not seen in another.
func TestP2AnswersAreNewMemory(t *testing.T) {
	c := network(6, 2)
	s := text(c, 4, 3, 1)
	calls := []func() (api.Frame, bool){
		func() (api.Frame, bool) { return Right(c, 4, 3, s) },
		func() (api.Frame, bool) { return Pick(c, 4, 3, only(2, s), only(4, s)) },
		func() (api.Frame, bool) { return Pick(c, 4, 3, only(2, s), only(4, "")) },
		func() (api.Frame, bool) { return Pick(c, 4, 3, alone(1, s), only(5, "")) },
		func() (api.Frame, bool) { return Pick(c, 4, 3, alone(1, s), alone(1, s)) },
	}
	// All are held on to, so that none of their memory can be used again.
	seen := map[*api.Item]bool{}
	var answers []api.Frame
	for range 3 {
		for i, call := range calls {
			got, _ := call()
			at := unsafe.SliceData(got.Echo)
			if len(got.Echo) != 7 || seen[at] {
				t.Fatalf("call %d: %v is old memory", i, got)
			}
			seen[at] = true
			answers = append(answers, got)
		}
	}
	for _, got := range answers {
		if frame.Text(c, got) != s {
			t.Errorf("%v: changed by what was done to another", got)
		}
		clear(got.Echo[:cap(got.Echo)])
	}
	rightIs(t, c, 4, 3, s, true)
}

func TestP2NoListAndAnEmptyOneAreTheSame(t *testing.T) {
	none, empty := network(6), network(6)
	none.Pairs, empty.Pairs = nil, []int{}
	for slot := -1; slot < 8; slot++ {
		for _, s := range []string{"", text(none, 4, 3, 1), text(none, 4, 6, 1)} {
			for far := range 4 {
				f, is := Pick(none, 4, slot, only(far, s), alone(1, s))
				g, too := Pick(empty, 4, slot, only(far, s), alone(1, s))
				if is != too || !frame.Same(f, g) {
					t.Errorf("slot %d: no list and an empty one are told apart", slot)
				}
			}
		}
	}
}

// Asked again, in the other order, and among others, all is answered as it was.
func TestP3TheSameAgain(t *testing.T) {
	ask := func(seed int) (api.Frame, bool) {
		d := &die{uint64(seed)}
		c := d.conf()
		slot := d.of(conf.Slots(c))
		return Pick(c, 4, slot, d.side(c, 4, slot), d.side(c, 4, slot))
	}
	var first []api.Frame
	for seed := range 500 {
		f, _ := ask(seed)
		first = append(first, f)
	}
	for seed := 499; seed >= 0; seed-- {
		if f, _ := ask(seed); !frame.Same(f, first[seed]) {
			t.Errorf("seed %d: %v, was %v", seed, f, first[seed])
		}
	}
}

func FuzzPick(f *testing.F) {
	c := network(6, 2)
	f.Add(uint64(1), 4, 3, 2, 3, text(c, 4, 3, 1), text(c, 4, 3, 2), 6)
	f.Add(uint64(77), 4, 6, 1, 1, text(c, 4, 6, 1), "é", 12)
	f.Add(uint64(3), -9, -1, math.MinInt, math.MaxInt, "01\xff", "#", math.MaxInt)
	f.Fuzz(func(t *testing.T, seed uint64, round, slot, far, other int, s, r string, n int) {
		d := &die{seed}
		c := d.conf()
		a, b := spread.Side{Direct: s, Skip: r, Out: r, Far: far}, spread.Side{Direct: r, Skip: s, Out: s, Far: other}
		if 0 <= round && round <= 1<<30 {
			pickIs(t, c, round, slot, a, b, pickByDocument(c, round, slot, a, b))
			near := d.of(conf.Slots(c))
			x, y := d.side(c, round, near), d.side(c, round, near)
			pickIs(t, c, round, near, x, y, pickByDocument(c, round, near, x, y))
		}
		Pick(c, round, slot, a, b)
		c.N, c.First = n, far
		Pick(c, round, slot, a, b)
	})
}

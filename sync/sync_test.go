package sync

import (
	"math"
	"math/rand"
	"slices"
	"strconv"
	"strings"
	"sync"
	"testing"

	"plaiting/api"
)

// far is how far out numbers may be, on either side.
const far = 1 << 40

// states are those that there are.
var states = []int{api.SOff, api.SListen, api.SCold, api.SConfirm, api.SActive}

// show tells a row, of a long one its beginning.
func show(l []Heard) string {
	var words []string
	for i, h := range l {
		if i == 12 {
			words = append(words, "..", strconv.Itoa(len(l)), "in all")
			break
		}
		words = append(words, strconv.Itoa(h.Node)+":"+strconv.Itoa(h.Kind)+":"+strconv.Itoa(h.Dev))
	}
	return strings.Join(words, " ")
}

// numbers tells a row of numbers, of a long one its beginning.
func numbers(l []int) string {
	var words []string
	for _, n := range l[:min(len(l), 12)] {
		words = append(words, strconv.Itoa(n))
	}
	return strings.Join(words, " ") + ", " + strconv.Itoa(len(l)) + " in all"
}

// stepIs asks by how much a clock is put on, and that the row stays as it was.
func stepIs(t *testing.T, state, node int, l []Heard, want int) {
	t.Helper()
	was := slices.Clone(l)
	if got := Step(state, node, l); got != want {
		t.Errorf("Step(%d, %d, %s) = %d, want %d", state, node, show(was), got, want)
	}
	if !slices.Equal(l, was) {
		t.Errorf("Step(%d, %d, %s) left the row as %s", state, node, show(was), show(l))
	}
}

// steps are what a row makes of a node's clock in each state but SOff.
type steps struct{ listen, cold, confirm, active int }

// stepsAre asks for what a row makes in each state.
func stepsAre(t *testing.T, node int, l []Heard, want steps) {
	t.Helper()
	stepIs(t, api.SOff, node, l, 0)
	stepIs(t, api.SListen, node, l, want.listen)
	stepIs(t, api.SCold, node, l, want.cold)
	stepIs(t, api.SConfirm, node, l, want.confirm)
	stepIs(t, api.SActive, node, l, want.active)
}

// skewIs asks how far apart clocks are, and that the row stays as it was.
func skewIs(t *testing.T, l []int, want int) {
	t.Helper()
	was := slices.Clone(l)
	if got := Skew(l); got != want {
		t.Errorf("Skew(%s) = %d, want %d", numbers(was), got, want)
	}
	if !slices.Equal(l, was) {
		t.Errorf("Skew(%s) left the row as %s", numbers(was), numbers(l))
	}
}

// row makes senders of one kind, of nodes from first on.
func row(first, kind int, devs ...int) []Heard {
	var l []Heard
	for i, dev := range devs {
		l = append(l, Heard{first + i, kind, dev})
	}
	return l
}

// data makes senders of data, of nodes from first on.
func data(first int, devs ...int) []Heard {
	return row(first, api.KData, devs...)
}

// both lays rows behind one another.
func both(rows ...[]Heard) []Heard {
	return slices.Concat(rows...)
}

// halfway is half of the way up from the least to the greatest of numbers, one at either end left out; false of too few, too many, and of some that are too far out.
func halfway(l []int) (int, bool) {
	sorted := slices.Sorted(slices.Values(l))
	last := len(sorted) - 1
	if last < 3 || last > 999 || sorted[0] < -far || sorted[last] > far {
		return 0, false
	}
	lo, hi := sorted[1], sorted[last-1]
	return lo + (hi-lo)/2, true
}

// byDocument says P1201 in another way than the package's: what there is is gathered first, then asked for by the state.
func byDocument(state, node int, l []Heard) int {
	var devs []int
	for _, h := range l {
		if h.Kind == api.KData {
			devs = append(devs, h.Dev)
		}
	}
	if state == api.SActive {
		mid, _ := halfway(append(devs, 0))
		return mid
	}
	if mid, is := halfway(devs); is && state == api.SConfirm {
		return mid
	}
	switch {
	case state != api.SListen && state != api.SCold && state != api.SConfirm:
		return 0
	case len(devs) > 0:
		return devs[0]
	case len(l) == 0:
		return 0
	case state != api.SListen && node < l[0].Node:
		return 0
	}
	return l[0].Dev
}

// throw answers a number from -reach to reach.
func throw(d *rand.Rand, reach int) int {
	return d.Intn(2*reach+1) - reach
}

// throwRow answers senders of up to twelve nodes, by Node, each once, not node itself.
func throwRow(d *rand.Rand, node, reach int) []Heard {
	var l []Heard
	mostData := d.Intn(2) == 0
	heard := d.Intn(4)
	for i := range 12 {
		if i == node || d.Intn(4) < heard {
			continue
		}
		kind := 1 + d.Intn(3)
		if mostData && d.Intn(3) > 0 {
			kind = api.KData
		}
		l = append(l, Heard{i, kind, throw(d, reach)})
	}
	return l
}

// eachOrder hands out a row in each order there is; it is the caller's only till the next one.
func eachOrder[T any](l []T, use func([]T)) {
	row := slices.Clone(l)
	var from func(int)
	from = func(i int) {
		if i == len(row) {
			use(row)
			return
		}
		for j := i; j < len(row); j++ {
			row[i], row[j] = row[j], row[i]
			from(i + 1)
			row[i], row[j] = row[j], row[i]
		}
	}
	from(0)
}

// eachRow hands out each row of n senders, of nodes 0, 2, 4 and so on, with these Devs; it is the caller's only till the next one.
func eachRow(n int, devs []int, use func([]Heard)) {
	l := make([]Heard, n)
	var from func(int)
	from = func(i int) {
		if i == n {
			use(l)
			return
		}
		for _, kind := range []int{api.KCold, api.KSync, api.KData} {
			for _, dev := range devs {
				l[i] = Heard{2 * i, kind, dev}
				from(i + 1)
			}
		}
	}
	from(0)
}

func TestP1201NobodyHeard(t *testing.T) {
	for node := range 12 {
		stepsAre(t, node, nil, steps{})
		stepsAre(t, node, []Heard{}, steps{})
		stepsAre(t, node, data(1, 5, 6, 7, 8)[:0], steps{})
	}
}

// Whatever is heard, a node that is off and one in a state that there is none of leave their clocks alone.
func TestP1201Off(t *testing.T) {
	rows := [][]Heard{
		data(1, 4, 4, 4, 4),
		data(1, 4, 5, 6, 7, 8),
		data(1, 9),
		row(0, api.KCold, 9, 8),
		row(0, api.KSync, 9, 8),
		both(row(0, api.KCold, 9), data(2, 20, 30, 40, 50, 60)),
	}
	for _, l := range rows {
		for node := range 12 {
			stepIs(t, api.SOff, node, l, 0)
			for _, state := range noStates() {
				stepIs(t, state, node, l, 0)
			}
		}
	}
}

// noStates are numbers that are no states, those among them that are some by their lowest bits.
func noStates() []int {
	all := []int{-1, -2, -3, -4, 5, 6, 7, 8, 9, 100, math.MinInt, math.MinInt + 1, math.MinInt + 3, math.MinInt + 4, math.MinInt32, math.MaxInt32, math.MaxInt - 3, math.MaxInt}
	for _, s := range states {
		all = append(all, s+1<<3, s+1<<8, s+1<<16, s+1<<32, s-1<<8, s-1<<32)
	}
	return all
}

// An active node's own 0 counts for one that is active.
func TestP1201Active(t *testing.T) {
	for _, x := range []struct {
		devs []int
		want int
	}{
		{nil, 0},
		{[]int{10}, 0},
		{[]int{10, 20}, 0},
		{[]int{10, 20, 30}, 15}, // just 4: 0, 10, 20, 30
		{[]int{-10, -20, -30}, -15},
		{[]int{4, 4, 4}, 4},
		{[]int{-1, 1, 2}, 0},
		{[]int{-1, 2, 9}, 1},
		{[]int{-9, -2, 1}, -1},
		{[]int{4, 4, 4, 4}, 4},
		{[]int{10, 20, 30, 40}, 20},
		{[]int{10, 20, 30, 1000}, 20},
		{[]int{-1000, 20, 30, 40}, 15},
		{[]int{10, 11, 90, 100}, 50}, // neither the one in the middle nor what all make together
		{[]int{0, 0, 0, 1}, 0},
		{[]int{1, 2, 3, 4, 5, 6, 7, 8, 9, 10, 11}, 5},
	} {
		stepIs(t, api.SActive, 0, data(1, x.devs...), x.want)
		eachOrder(x.devs[:min(len(x.devs), 6)], func(devs []int) {
			stepIs(t, api.SActive, 0, data(1, append(slices.Clone(devs), x.devs[len(devs):]...)...), x.want)
		})
		for _, node := range []int{1, 5, 12} {
			l := data(0, x.devs...)
			for i := range l {
				if i >= node {
					l[i].Node++
				}
			}
			stepIs(t, api.SActive, node, l, x.want)
		}
	}
}

// To an active node those that send no data are as if they were not heard.
func TestP1201ActiveAndStarters(t *testing.T) {
	for _, kind := range []int{api.KCold, api.KSync} {
		for n := 1; n <= 6; n++ {
			for _, dev := range []int{1, -1, 500, -500, far, -far} {
				devs := slices.Repeat([]int{dev}, n)
				stepIs(t, api.SActive, 0, row(1, kind, devs...), 0)
				stepIs(t, api.SActive, 9, row(1, kind, devs...), 0)
				stepIs(t, api.SActive, 0, both(data(1, 10, 20), row(3, kind, devs...)), 0)
				stepIs(t, api.SActive, 0, both(data(1, 10, 20, 30), row(4, kind, devs...)), 15)
				stepIs(t, api.SActive, 0, both(row(1, kind, devs...), data(8, 10, 20, 30)), 15)
				stepIs(t, api.SActive, 0, both(data(1, 10), row(2, kind, devs...), data(8, 20, 30, 31)), 20)
			}
		}
	}
}

// One that confirms has no 0 of its own: it takes the midpoint of four and more, else the first one's.
func TestP1201Confirm(t *testing.T) {
	for _, x := range []struct {
		devs []int
		want int
	}{
		{[]int{10}, 10},
		{[]int{20, 10}, 20},
		{[]int{30, 20, 10}, 30},
		{[]int{10, 20, 30}, 10},
		{[]int{-7, 0, 7}, -7},
		{[]int{10, 20, 30, 90}, 25},
		{[]int{90, 30, 20, 10}, 25},
		{[]int{50, 0, 0, 0}, 0},
		{[]int{-50, -4, -4, -4}, -4},
		{[]int{-9, -4, -3, 9}, -4},
		{[]int{10, 20, 30, 40, 50}, 30},
		{[]int{1000, 1001, 1002, 1003, 1004}, 1002},
		{[]int{11, 10, 9, 8, 7, 6, 5, 4, 3, 2, 1}, 6},
	} {
		for _, node := range []int{0, 1, 5, 12} {
			stepIs(t, api.SConfirm, node, data(1, x.devs...), x.want)
			for _, kind := range []int{api.KCold, api.KSync} {
				starters := row(13, kind, 700, 800, 900)
				stepIs(t, api.SConfirm, node, both(data(1, x.devs...), starters), x.want)
				stepIs(t, api.SConfirm, node, both(starters, data(16, x.devs...)), x.want)
			}
		}
	}
}

// Only one that confirms, and an active one, look at more than one clock.
func TestP1201OneClock(t *testing.T) {
	for _, state := range []int{api.SListen, api.SCold} {
		for n := 1; n <= 11; n++ {
			for _, first := range []int{0, 1, -1, 77, -77, far, -far} {
				l := data(1, append([]int{first}, slices.Repeat([]int{5}, n-1)...)...)
				for _, node := range []int{0, 1, 2, 12} {
					stepIs(t, state, node, l, first)
				}
			}
		}
	}
}

// Where there are only starters, one that starts too follows none that is behind it.
func TestP1201OnlyStarters(t *testing.T) {
	for _, kind := range []int{api.KCold, api.KSync} {
		for _, other := range []int{api.KCold, api.KSync} {
			for first := range 12 {
				for node := range 14 {
					for _, dev := range []int{7, -7, 1, far, -far} {
						stepsFollow(t, node, []Heard{{first, kind, dev}})
						stepsFollow(t, node, both(row(first, kind, dev), row(first+1, other, 9, 10, 11, 12)))
					}
				}
			}
		}
	}
}

// stepsFollow asks for the first one's Dev, but of one that starts, and is below it, for 0.
func stepsFollow(t *testing.T, node int, l []Heard) {
	t.Helper()
	want := l[0].Dev
	if node < l[0].Node {
		stepsAre(t, node, l, steps{listen: want})
		return
	}
	stepsAre(t, node, l, steps{listen: want, cold: want, confirm: want})
}

func TestP1201BelowBesideAbove(t *testing.T) {
	starters := []Heard{{2, api.KCold, 7}, {4, api.KSync, 9}}
	stepsAre(t, 0, starters, steps{7, 0, 0, 0})
	stepsAre(t, 1, starters, steps{7, 0, 0, 0})
	stepsAre(t, 2, starters, steps{7, 7, 7, 0})
	stepsAre(t, 3, starters, steps{7, 7, 7, 0})
	stepsAre(t, 4, starters, steps{7, 7, 7, 0})
	stepsAre(t, 5, starters, steps{7, 7, 7, 0})
	// The one it is held against is the first one, and with a member nobody.
	mixed := both(starters, data(6, 30))
	for node := range 9 {
		stepsAre(t, node, mixed, steps{30, 30, 30, 0})
		stepsAre(t, node, data(6, 30), steps{30, 30, 30, 0})
		stepsAre(t, node, both(data(1, 30), starters), steps{30, 30, 30, 0})
	}
}

// Members go ahead of starters, wherever they stand.
func TestP1201EitherOrder(t *testing.T) {
	for _, kind := range []int{api.KCold, api.KSync} {
		for _, node := range []int{0, 1, 3, 6, 11} {
			stepsAre(t, node, both(row(2, kind, 9), data(4, 30)), steps{30, 30, 30, 0})
			stepsAre(t, node, both(data(2, 30), row(4, kind, 9)), steps{30, 30, 30, 0})
			stepsAre(t, node, both(row(2, kind, 9, 8), data(4, 0, 40)), steps{0, 0, 0, 0})
			stepsAre(t, node, both(data(2, 0), row(4, kind, 9, 8), data(7, 40)), steps{0, 0, 0, 0})
			stepsAre(t, node, both(row(1, kind, 9), data(4, 30), row(5, kind, 8), data(8, 40, 50)), steps{30, 30, 30, 35})
			stepsAre(t, node, both(data(1, 30), row(2, kind, 8), data(8, 40, 50), row(10, kind, 1)), steps{30, 30, 30, 35})
			stepsAre(t, node, both(row(1, kind, 9), data(2, 30, 50, 40, 20)), steps{30, 30, 35, 30})
			stepsAre(t, node, both(data(2, 30, 50), row(4, kind, 9), data(5, 40, 20)), steps{30, 30, 35, 30})
			stepsAre(t, node, both(data(2, 30, 50, 40), row(5, kind, 9)), steps{30, 30, 30, 35})
		}
	}
	stepsAre(t, 0, []Heard{{2, api.KCold, 7}, {3, api.KSync, 8}}, steps{7, 0, 0, 0})
	stepsAre(t, 0, []Heard{{2, api.KSync, 8}, {3, api.KCold, 7}}, steps{8, 0, 0, 0})
	stepsAre(t, 5, []Heard{{2, api.KCold, 7}, {3, api.KSync, 8}}, steps{7, 7, 7, 0})
	stepsAre(t, 5, []Heard{{2, api.KSync, 8}, {3, api.KCold, 7}}, steps{8, 8, 8, 0})
}

// Fewer than four, and just four: what an active node has of three members one that confirms has of four.
func TestP1201FourOfThem(t *testing.T) {
	for _, v := range []int{1, 2, 3, -1, -2, -3, 100, far, -far} {
		stepsAre(t, 0, data(1, v), steps{v, v, v, 0})
		stepsAre(t, 0, data(1, v, v), steps{v, v, v, 0})
		stepsAre(t, 0, data(1, v, v, v), steps{v, v, v, v})
		stepsAre(t, 0, data(1, v, v, v, v), steps{v, v, v, v})
	}
	stepsAre(t, 0, data(1, 8, 2, 4), steps{8, 8, 8, 3})
	stepsAre(t, 0, data(1, 8, 2, 4, 10), steps{8, 8, 6, 5})
	stepsAre(t, 0, data(1, -8, -2, -4), steps{-8, -8, -8, -3})
	stepsAre(t, 0, data(1, -8, -2, -4, -10), steps{-8, -8, -6, -5})
	stepsAre(t, 0, data(1, 8, -2, 4), steps{8, 8, 8, 2})
	stepsAre(t, 0, data(1, 8, 2, -4, 10), steps{8, 8, 5, 4})
}

func TestP1201RoundedDown(t *testing.T) {
	for _, x := range []struct{ lo, hi, want int }{
		{0, 1, 0}, {-1, 0, -1}, {-2, 0, -1}, {-3, 0, -2}, {-4, -1, -3}, {-2, -1, -2},
		{-1, 2, 0}, {-2, 1, -1}, {-101, 100, -1}, {-100, 101, 0}, {-101, -100, -101},
		{-far, far - 1, -1}, {1 - far, far, 0}, {-far, 1 - far, -far},
	} {
		stepIs(t, api.SConfirm, 0, data(1, -far, x.lo, x.hi, far), x.want)
		stepIs(t, api.SConfirm, 0, data(1, x.hi, x.hi, x.lo, x.lo), x.want)
		// An active node's own 0 is among those left, or goes.
		stepIs(t, api.SActive, 0, data(1, -far, x.lo, x.hi, far), byDocument(api.SActive, 0, data(1, -far, x.lo, x.hi, far)))
	}
	stepIs(t, api.SActive, 0, data(1, -1, -9, 9), -1)
	stepIs(t, api.SActive, 0, data(1, -3, -9, 9), -2)
	stepIs(t, api.SActive, 0, data(1, -2, -3, -9), -3)
	stepIs(t, api.SActive, 0, data(1, -9, -9, -4, 9), -5)
	stepIs(t, api.SActive, 0, data(1, -9, -7, -4, -2), -5)
	stepIs(t, api.SActive, 0, data(1, -9, -7, -4, -1), -4)
	stepIs(t, api.SActive, 0, data(1, 1, 9, -9), 0)
	stepIs(t, api.SActive, 0, data(1, 1-far, -far, 0), 0-far/2)
}

func TestP1201FurthestDevs(t *testing.T) {
	stepsAre(t, 0, data(1, far, far, far), steps{far, far, far, far})
	stepsAre(t, 0, data(1, -far, -far, -far), steps{-far, -far, -far, -far})
	stepsAre(t, 0, data(1, far, far, far, far), steps{far, far, far, far})
	stepsAre(t, 0, data(1, -far, -far, far, far), steps{-far, -far, 0, 0})
	stepsAre(t, 0, data(1, far, -far, far), steps{far, far, far, far / 2})
	stepsAre(t, 0, data(1, -far, far, far, far), steps{-far, -far, far, far / 2})
	stepsAre(t, 0, data(1, far, 1<<32, 1<<33, -far), steps{far, far, 3 << 31, 1 << 32})
	stepsAre(t, 0, row(0, api.KCold, far), steps{far, far, far, 0})
	stepsAre(t, 0, row(0, api.KCold, -far), steps{-far, -far, -far, 0})
}

// Every row of up to five senders: each kind at each place, equal clocks, none, and sums below 0 are among them.
func TestP1201EachRow(t *testing.T) {
	for _, x := range []struct {
		n    int
		devs []int
	}{{1, []int{-3, -1, 0, 2, 5}}, {2, []int{-3, -1, 0, 2, 5}}, {3, []int{-3, 0, 2}}, {4, []int{-3, 2}}, {5, []int{-3, 2}}} {
		eachRow(x.n, x.devs, func(l []Heard) {
			for _, node := range []int{-1, 0, 1, 3, 9} {
				for _, state := range states {
					stepIs(t, state, node, l, byDocument(state, node, l))
				}
			}
		})
	}
}

func TestP1201Thrown(t *testing.T) {
	d := rand.New(rand.NewSource(1201))
	for range 40000 {
		node := d.Intn(12)
		l := throwRow(d, node, 1<<d.Intn(41))
		for _, state := range states {
			stepIs(t, state, node, l, byDocument(state, node, l))
		}
	}
}

// noKinds are numbers that are no kinds of frames, those among them that are some by their lowest bits.
func noKinds() []int {
	return []int{0, 4, 5, -1, -2, -3, 7, 11, 3 + 1<<8, 3 + 1<<16, 3 + 1<<32, 3 - 1<<32, 1 + 1<<32, math.MinInt, math.MinInt + 3, math.MaxInt - 4, math.MaxInt}
}

// A sender of a kind that there is none of was heard, but it sent no data.
func TestP8KindsThatAreNone(t *testing.T) {
	for _, kind := range noKinds() {
		stepsAre(t, 5, row(1, kind, 7, 8, 9, 10), steps{7, 7, 7, 0})
		stepsAre(t, 0, row(1, kind, 7, 8, 9, 10), steps{7, 0, 0, 0})
		stepsAre(t, 0, both(row(1, kind, 7, 8), data(3, 30)), steps{30, 30, 30, 0})
		stepsAre(t, 0, both(row(1, kind, 7, 8), data(3, 10, 20, 30)), steps{10, 10, 10, 15})
		stepsAre(t, 0, both(data(1, 10, 20, 30, 90), row(5, kind, 7, 8)), steps{10, 10, 25, 20})
	}
}

// further are numbers that are too far out, those whose sums wrap round and those that are in bounds by their lowest bits among them.
func further() []int {
	return []int{far + 1, -far - 1, far + 2, -far - 2, 1 << 41, -1 << 41, 1<<62 + 5, -1 << 62, math.MaxInt/2 + 1, math.MinInt/2 - 1, math.MaxInt - 1, math.MaxInt, math.MinInt + 1, math.MinInt}
}

// Of Devs further out there is no midpoint: an active node stays as it is, one that confirms follows the first member. A single one is taken as it is.
func TestP9DevsFurtherOut(t *testing.T) {
	for _, v := range further() {
		for n := 1; n <= 11; n++ {
			stepsAre(t, 0, data(1, slices.Repeat([]int{v}, n)...), steps{v, v, v, 0})
			for at := range n {
				devs := slices.Repeat([]int{5}, n)
				devs[at] = v
				stepsAre(t, 12, data(1, devs...), steps{devs[0], devs[0], devs[0], 0})
			}
		}
		for _, kind := range []int{api.KCold, api.KSync} {
			stepsAre(t, 0, row(1, kind, v, 8), steps{v, 0, 0, 0})
			stepsAre(t, 1, row(1, kind, v, 8), steps{v, v, v, 0})
			stepsAre(t, 2, row(1, kind, v, 8), steps{v, v, v, 0})
			// It does not count beside members.
			stepsAre(t, 0, both(row(1, kind, v), data(3, 10, 20, 30, 90), row(7, kind, v)), steps{10, 10, 25, 20})
		}
	}
}

// Of more than 1000 numbers there is no midpoint either; an active node's own is one of them.
func TestP9MoreDevs(t *testing.T) {
	for _, n := range []int{998, 999, 1000, 1001, 1002, 2000, 1000 + 1<<8, 1 << 16, 4 + 1<<16} {
		devs := slices.Repeat([]int{6}, n)
		devs[0] = 9
		want := steps{9, 9, 9, 0}
		if n <= 999 {
			want.active = 6
		}
		if n <= 1000 {
			want.confirm = 6
		}
		stepsAre(t, 0, data(1, devs...), want)
		// Starters do not count.
		stepsAre(t, 0, both(row(1, api.KCold, devs...), data(n+1, devs[:4]...)), steps{9, 9, 6, 6})
		stepsAre(t, n, row(1, api.KSync, devs...), steps{9, 9, 9, 0})
		stepsAre(t, 0, row(1, api.KSync, devs...), steps{9, 0, 0, 0})
	}
}

// Rows that may not be are gone over in the order in which they stand; numbers that are no nodes are held against one another as they are.
func TestP8Rows(t *testing.T) {
	upsideDown := []Heard{{8, api.KSync, 7}, {3, api.KCold, 9}, {1, api.KSync, 11}}
	stepsAre(t, 5, upsideDown, steps{7, 0, 0, 0})
	stepsAre(t, 8, upsideDown, steps{7, 7, 7, 0})
	stepsAre(t, 0, []Heard{{8, api.KData, 7}, {3, api.KData, 9}}, steps{7, 7, 7, 0})
	stepsAre(t, 0, []Heard{{3, api.KData, 7}, {3, api.KData, 9}, {3, api.KData, 11}, {3, api.KData, 13}}, steps{7, 7, 10, 9})
	for _, node := range []int{math.MinInt, math.MinInt + 1, -1 << 32, -2, -1, 0, 11, 12, 1 << 32, math.MaxInt - 1, math.MaxInt} {
		for _, first := range []int{math.MinInt, -1 << 33, -1, 0, 12, 1 << 33, math.MaxInt} {
			stepsFollow(t, node, []Heard{{first, api.KCold, 7}})
			stepsAre(t, node, []Heard{{first, api.KData, 7}}, steps{7, 7, 7, 0})
		}
	}
}

func TestP1201SkewByNumbers(t *testing.T) {
	skewIs(t, nil, 0)
	skewIs(t, []int{}, 0)
	for _, v := range []int{0, 1, -1, 5, -77, far, -far} {
		for _, n := range []int{1, 2, 3, 12, 1000, 1001, 5000} {
			skewIs(t, slices.Repeat([]int{v}, n), 0)
		}
	}
	for _, x := range []struct {
		l    []int
		want int
	}{
		{[]int{5, -3, 2}, 8},
		{[]int{0, 1}, 1},
		{[]int{-1, 0}, 1},
		{[]int{1, 2, 3, 4}, 3},
		{[]int{-4, -3, -2, -1}, 3},
		{[]int{10, 7, 9, 8}, 3},
		{[]int{3, 3, 3, 4}, 1},
		{[]int{0, 0, 0, -100}, 100},
		{[]int{-far, far}, 2 * far},
		{[]int{-far, 0, far}, 2 * far},
		{[]int{far, far - 1, far}, 1},
		{[]int{-far, 1 - far}, 1},
		{[]int{0, far}, far},
		{[]int{0, -far}, far},
		{[]int{math.MinInt32, math.MaxInt32}, math.MaxUint32},
	} {
		eachOrder(x.l, func(l []int) { skewIs(t, l, x.want) })
	}
}

// furthestTwo is Skew by holding each clock against each other one.
func furthestTwo(l []int) int {
	apart := 0
	for _, a := range l {
		for _, b := range l {
			apart = max(apart, a-b)
		}
	}
	return apart
}

func TestP1201SkewThrown(t *testing.T) {
	d := rand.New(rand.NewSource(12))
	for range 20000 {
		l := make([]int, d.Intn(14))
		reach := 1 << d.Intn(41)
		for i := range l {
			l[i] = throw(d, reach)
		}
		skewIs(t, l, furthestTwo(l))
	}
}

// A row with a clock that is out of bounds is refused.
func TestP9SkewFurtherOut(t *testing.T) {
	for _, v := range further() {
		skewIs(t, []int{v}, 0)
		skewIs(t, []int{v, v, v}, 0)
		for _, w := range append(further(), 0, 1, far, -far) {
			eachOrder([]int{v, w, 5}, func(l []int) { skewIs(t, l, 0) })
		}
	}
}

// outcomes are the lowest and the highest that an active node's clock can be behind a round: each number that it reads moves it the same way, so that all errors to one side, and the arbitrary one as far there as it can be, are as bad as it gets.
func outcomes(clocks []int, node, most int, arbitrary bool) (int, int) {
	var ends [2]int
	for i, side := range []int{-1, 1} {
		var l []Heard
		for other, clock := range clocks {
			if other != node {
				l = append(l, Heard{other, api.KData, clock - clocks[node] + side*most})
			}
		}
		if arbitrary {
			l = append(l, Heard{len(clocks), api.KData, side * far})
		}
		ends[i] = clocks[node] + Step(api.SActive, node, l)
	}
	return ends[0], ends[1]
}

// worst is how far apart two clocks can be behind a round, each of both nodes hearing the arbitrary one or not.
func worst(clocks []int, most int) int {
	apart := 0
	lows, highs := make([]int, len(clocks)), make([]int, len(clocks))
	for node := range clocks {
		a, b := outcomes(clocks, node, most, true)
		c, d := outcomes(clocks, node, most, false)
		lows[node], highs[node] = min(a, c), max(b, d)
	}
	for i, low := range lows {
		for j, high := range highs {
			if i != j {
				apart = max(apart, high-low)
			}
		}
	}
	return apart
}

// Every way in which the five right nodes of the least network can stand, their errors and the arbitrary one at their worst.
func TestP1202EachWayToStand(t *testing.T) {
	const reach = 6
	clocks := make([]int, 5)
	for n := range reach * reach * reach * reach * reach {
		for i := range clocks {
			clocks[i] = n % reach
			n /= reach
		}
		for most := range 4 {
			if apart := worst(clocks, most); apart > Skew(clocks)/2+2*most+1 {
				t.Fatalf("%v, an error of %d: %d apart behind it", clocks, most, apart)
			}
		}
	}
}

func TestP1202ThrownWorst(t *testing.T) {
	d := rand.New(rand.NewSource(1202))
	for range 20000 {
		clocks := make([]int, 5+d.Intn(7))
		reach, most := 1<<d.Intn(14), d.Intn(101)
		for i := range clocks {
			clocks[i] = throw(d, reach)
		}
		if apart := worst(clocks, most); apart > Skew(clocks)/2+2*most+1 {
			t.Fatalf("%v, an error of %d: %d apart behind it", clocks, most, apart)
		}
	}
}

// heardBy is what an active node hears of the others, with errors of at most most, and of one more that may be anything, or silent.
func heardBy(d *rand.Rand, clocks []int, node, arbitrary, most int) []Heard {
	var l []Heard
	for other := range len(clocks) {
		switch {
		case other == node:
		case other != arbitrary:
			l = append(l, Heard{other, api.KData, clocks[other] - clocks[node] + throw(d, most)})
		case d.Intn(4) > 0:
			l = append(l, Heard{other, 1 + d.Intn(3), throw(d, 1<<d.Intn(41))})
		}
	}
	return l
}

// right are the clocks of all nodes but one.
func right(clocks []int, arbitrary int) []int {
	return slices.Delete(slices.Clone(clocks), arbitrary, arbitrary+1)
}

// T4: with the least Pi that a network may have, clocks that are no further apart stay so, round by round, whatever drifts and errors there are and whatever one of the nodes tells each of the others.
func TestP1202InStep(t *testing.T) {
	d := rand.New(rand.NewSource(4))
	for range 400 {
		n, e, g := 6+d.Intn(7), d.Intn(101), d.Intn(101)
		pi := 4 * (e + g + 1)
		arbitrary := d.Intn(n)
		clocks := make([]int, n)
		for i := range clocks {
			clocks[i] = d.Intn(pi + 1)
		}
		for round := range 60 {
			for i := range clocks {
				clocks[i] += throw(d, g)
			}
			was := Skew(right(clocks, arbitrary))
			next := slices.Clone(clocks)
			for i := range next {
				next[i] += Step(api.SActive, i, heardBy(d, clocks, i, arbitrary, e))
			}
			now := Skew(right(next, arbitrary))
			if now > was/2+2*e+1 || now > pi {
				t.Fatalf("round %d: %v, then %v: %d apart, then %d, of %d", round, clocks, next, was, now, pi)
			}
			clocks = next
		}
	}
}

// A node that confirms among members stands among the right ones of them at once, where one of them is arbitrary.
func TestP1202Joins(t *testing.T) {
	d := rand.New(rand.NewSource(5))
	for range 20000 {
		devs := make([]int, 3+d.Intn(8))
		for i := range devs {
			devs[i] = throw(d, 1000)
		}
		lo, hi := slices.Min(devs), slices.Max(devs)
		at := d.Intn(len(devs) + 1)
		l := data(1, slices.Insert(devs, at, throw(d, 1<<d.Intn(41)))...)
		if dev := Step(api.SConfirm, 0, l); dev < lo || dev > hi {
			t.Fatalf("Step of %s: %d, arbitrary is number %d", show(l), dev, at)
		}
	}
}

// What stands behind a row, in its spare room, is neither looked at nor changed.
func TestP2SpareRoom(t *testing.T) {
	room := both(row(0, api.KCold, 9), data(2, 7, 3, 100, 5, -77), row(8, api.KSync, 6), data(9, 1, far+1))
	was := slices.Clone(room)
	for n := range len(room) {
		for _, state := range states {
			stepIs(t, state, 1, room[:n], byDocument(state, 1, was[:n]))
		}
	}
	if !slices.Equal(room, was) {
		t.Errorf("the row and what is behind it are %s now, and were %s", show(room), show(was))
	}
	clocks := []int{9, 7, 3, 100, far + 1, -5}
	skewIs(t, clocks[:0], 0)
	skewIs(t, clocks[:3], 6)
	skewIs(t, clocks[:4], 97)
	if !slices.Equal(clocks, []int{9, 7, 3, 100, far + 1, -5}) {
		t.Errorf("the clocks and what is behind them are %v now", clocks)
	}
}

// A row that is changed behind a call is another one.
func TestP2NothingIsKept(t *testing.T) {
	l := data(1, 10, 20, 30, 90)
	stepsAre(t, 0, l, steps{10, 10, 25, 20})
	l[0].Dev, l[1].Kind = 50, api.KSync
	stepsAre(t, 0, l, steps{50, 50, 50, 40})
	stepsAre(t, 0, data(1, 10, 20, 30, 90), steps{10, 10, 25, 20})
	clear(l)
	stepsAre(t, 0, l, steps{})
	clocks := []int{5, -3, 2}
	skewIs(t, clocks, 8)
	clocks[1] = 3
	skewIs(t, clocks, 3)
}

func TestP3TheSameAgain(t *testing.T) {
	d := rand.New(rand.NewSource(3))
	var rows [][]Heard
	for range 100 {
		rows = append(rows, throwRow(d, 4, 1000))
	}
	for range 3 {
		for _, l := range rows {
			for _, state := range states {
				stepIs(t, state, 4, l, byDocument(state, 4, l))
			}
		}
		slices.Reverse(rows)
	}
}

func TestP7SideBySide(t *testing.T) {
	d := rand.New(rand.NewSource(7))
	var devs []int
	for range 999 {
		devs = append(devs, throw(d, far))
	}
	l := data(1, devs...)
	var all sync.WaitGroup
	for i := range 8 {
		state := states[i%len(states)]
		want, apart := byDocument(state, 0, l), furthestTwo(devs)
		all.Go(func() {
			for range 50 {
				if got := Step(state, 0, l); got != want {
					t.Errorf("state %d: %d, want %d", state, got, want)
				}
				if got := Skew(devs); got != apart {
					t.Errorf("Skew: %d, want %d", got, apart)
				}
			}
		})
	}
	all.Wait()
}

func FuzzStep(f *testing.F) {
	f.Add(api.SOff, 0, 0, 1, 2, 100, 7, uint16(0o3333), uint16(0))
	f.Add(api.SListen, 0, 5, 4, 3, 2, 1, uint16(0o1212), uint16(0))
	f.Add(api.SCold, 3, -5, -4, -1, 0, 9, uint16(0o1321), uint16(1))
	f.Add(api.SConfirm, 1, -far, far, far, -far, 6, uint16(0o3333), uint16(996))
	f.Add(api.SActive, 2, math.MinInt, math.MaxInt, 5, 6, 7, uint16(0o3333), uint16(1001))
	f.Fuzz(func(t *testing.T, state, node, a, b, c, d, e int, kinds, more uint16) {
		var l []Heard
		for i, dev := range []int{a, b, c, d} {
			l = append(l, Heard{2 * i, int(kinds>>(3*i)) & 7, dev})
		}
		l = both(l, data(8, slices.Repeat([]int{e}, int(more%1100))...))
		for n := range 5 {
			stepIs(t, state, node, l[:n], byDocument(state, node, l[:n]))
		}
		for _, state := range append([]int{state}, states...) {
			stepIs(t, state, node, l, byDocument(state, node, l))
		}
		want := 0
		clocks := []int{a, b, c, d, e}
		if slices.Min(clocks) >= -far && slices.Max(clocks) <= far {
			want = furthestTwo(clocks)
		}
		skewIs(t, clocks, want)
	})
}

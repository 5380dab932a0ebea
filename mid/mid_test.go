package mid

import (
	"math"
	"math/rand"
	"slices"
	"strconv"
	"strings"
	"sync"
	"testing"
)

// far is how far out numbers may be, on either side.
const far = 1 << 40

// show tells a row, of a long one its beginning.
func show(l []int) string {
	var words []string
	for i, v := range l {
		if i == 12 {
			words = append(words, "..", strconv.Itoa(len(l)), "in all")
			break
		}
		words = append(words, strconv.Itoa(v))
	}
	return strings.Join(words, " ")
}

// midIs asks for the midpoint of a row, and that the row stays as it was.
func midIs(t *testing.T, l []int, want int) {
	t.Helper()
	was := slices.Clone(l)
	if got, is := Mid(l); got != want || !is {
		t.Errorf("Mid(%s) = %d, %v, want %d", show(was), got, is, want)
	}
	if !slices.Equal(l, was) {
		t.Errorf("Mid(%s) left the row as %s", show(was), show(l))
	}
}

// noneIs asks for none, with a zero number beside it, and that the row stays as it was.
func noneIs(t *testing.T, l []int) {
	t.Helper()
	was := slices.Clone(l)
	if got, is := Mid(l); got != 0 || is {
		t.Errorf("Mid(%s) = %d, %v, want none", show(was), got, is)
	}
	if !slices.Equal(l, was) {
		t.Errorf("Mid(%s) left the row as %s", show(was), show(l))
	}
}

// eachOrder hands out a row in each order there is; it is the caller's only till the next one.
func eachOrder(l []int, use func([]int)) {
	row := slices.Clone(l)
	var from func(int)
	from = func(i int) {
		if i == len(row) {
			use(row)
			return
		}
		for j := i; j < len(row); j++ {
			row[i], row[j] = row[j], row[i]
			from(i + 1)
			row[i], row[j] = row[j], row[i]
		}
	}
	from(0)
}

// eachRow hands out each row of n numbers from -reach to reach; it is the caller's only till the next one.
func eachRow(n, reach int, use func([]int)) {
	row := make([]int, n)
	var from func(int)
	from = func(i int) {
		if i == n {
			use(row)
			return
		}
		for v := -reach; v <= reach; v++ {
			row[i] = v
			from(i + 1)
		}
	}
	from(0)
}

// left are the ends of what is left, by counting: the least number that two are not above, the greatest one that two are not below.
func left(l []int) (int, int) {
	lo, hi := math.MaxInt, math.MinInt
	for _, v := range l {
		notAbove, notBelow := 0, 0
		for _, w := range l {
			if w <= v {
				notAbove++
			}
			if w >= v {
				notBelow++
			}
		}
		if notAbove >= 2 {
			lo = min(lo, v)
		}
		if notBelow >= 2 {
			hi = max(hi, v)
		}
	}
	return lo, hi
}

// byDocument says P1101 in another way than the package's: half of the way up from the lower end, with what is left over not counted.
func byDocument(l []int) int {
	lo, hi := left(l)
	return lo + (hi-lo)/2
}

// throw answers n numbers from -reach to reach.
func throw(d *rand.Rand, n, reach int) []int {
	l := make([]int, n)
	for i := range l {
		l[i] = d.Intn(2*reach+1) - reach
	}
	return l
}

func TestP1101ByNumbers(t *testing.T) {
	for _, x := range []struct {
		l    []int
		want int
	}{
		{[]int{0, 1, 2, 100}, 1}, // the chapter's own
		{[]int{0, 2, 4, 100}, 3},
		{[]int{1, 2, 3, 4}, 2},
		{[]int{-50, 1, 9, 10}, 5},
		{[]int{0, 1, 2, 3, 4}, 2},
		{[]int{0, 10, 11, 90, 100}, 50}, // neither the one in the middle nor what all make together
		{[]int{0, 10, 80, 85, 90, 100}, 50},
		{[]int{0, 1, 2, 3, 4, 5, 1000}, 3},
		{[]int{-1000, 1, 2, 3, 4, 5, 6}, 3},
		{[]int{3, 5, 7, 9, 11, 13, 15, 17}, 10},
	} {
		midIs(t, x.l, x.want)
	}
}

func TestP1101FewerThanFour(t *testing.T) {
	noneIs(t, nil)
	noneIs(t, []int{})
	for n := 1; n <= 3; n++ {
		eachRow(n, 3, func(l []int) { noneIs(t, l) })
		for _, v := range []int{0, 1, -1, 100, far, -far} {
			noneIs(t, slices.Repeat([]int{v}, n))
		}
	}
	noneIs(t, []int{1, 2, 3, 4}[:3])
	midIs(t, []int{1, 2, 3, 4}, 2)
}

// All numbers of just four, and of some more: each order, equal ones and sums below 0 are among them.
func TestP1101EachRow(t *testing.T) {
	for _, x := range []struct{ n, reach int }{{4, 5}, {5, 3}, {6, 2}, {7, 1}, {8, 1}} {
		eachRow(x.n, x.reach, func(l []int) { midIs(t, l, byDocument(l)) })
	}
}

func TestP1101EachOrder(t *testing.T) {
	for _, x := range []struct {
		l    []int
		want int
	}{
		{[]int{0, 1, 2, 100}, 1},
		{[]int{-far, -7, 2, far}, -3},
		{[]int{-9, -4, 6, 8, 20}, 2},
		{[]int{1, 1, 5, 5, 9}, 3},
		{[]int{-100, -31, -20, -8, 0, 90}, -16},
		{[]int{0, 0, 4, 7, 7, 7, 30}, 3},
	} {
		eachOrder(x.l, func(l []int) { midIs(t, l, x.want) })
	}
}

// Just one that is least and just one that is greatest go, however many of them there are.
func TestP1101EqualOnes(t *testing.T) {
	for _, v := range []int{0, 1, -1, 7, -7, 1000, far - 1, far, 1 - far, -far} {
		for _, n := range []int{4, 5, 6, 7, 11, 12, 1000} {
			midIs(t, slices.Repeat([]int{v}, n), v)
		}
	}
	for _, x := range []struct {
		l    []int
		want int
	}{
		{[]int{0, 0, 1, 9}, 0},
		{[]int{0, 0, 8, 9}, 4},
		{[]int{0, 2, 9, 9}, 5},
		{[]int{0, 0, 9, 9}, 4},
		{[]int{0, 0, 0, 9}, 0},
		{[]int{0, 9, 9, 9}, 9},
		{[]int{0, 0, 1, 9, 9}, 4},
		{[]int{0, 0, 0, 0, 9, 9}, 4},
		{[]int{0, 0, 0, 0, 0, 9}, 0},
		{[]int{0, 9, 9, 9, 9, 9}, 9},
		{[]int{0, 3, 3, 3, 9}, 3},
		{[]int{-9, -9, -9, 4, 4}, -3},
		{[]int{-9, 5, 5, 5}, 5},
	} {
		eachOrder(x.l, func(l []int) { midIs(t, l, x.want) })
	}
}

func TestP1101RoundedDown(t *testing.T) {
	for _, x := range []struct{ lo, hi, want int }{
		{0, 0, 0},
		{0, 1, 0},
		{0, 2, 1},
		{0, 3, 1},
		{-1, 0, -1},
		{-2, 0, -1},
		{-3, 0, -2},
		{-4, -1, -3},
		{-2, -1, -2},
		{-1, 1, 0},
		{-2, 1, -1},
		{-1, 2, 0},
		{-101, 100, -1},
		{-100, 101, 0},
		{-101, -100, -101},
		{100, 101, 100},
		{-far, far - 1, -1},
		{1 - far, far, 0},
		{-far, 1 - far, -far},
		{far - 1, far, far - 1},
		{-far, -far, -far},
		{far, far, far},
	} {
		midIs(t, []int{-far, x.lo, x.hi, far}, x.want)
		midIs(t, []int{x.hi, far, -far, x.lo}, x.want)
		midIs(t, []int{x.hi, x.hi, x.lo, x.lo}, x.want)
		midIs(t, []int{x.lo, x.hi, x.lo, x.hi, x.lo, x.hi}, x.want)
	}
}

func TestP1101NegativeOnes(t *testing.T) {
	midIs(t, []int{-3, -2, -1, 0}, -2)
	midIs(t, []int{-5, -4, -1, 0}, -3)
	midIs(t, []int{-100, -9, -4, -1}, -7)
	midIs(t, []int{-4, -3, -2, -1}, -3)
	midIs(t, []int{-10, -8, -6, -1}, -7)
	midIs(t, []int{-10, -9, 3, 10}, -3)
	midIs(t, []int{-1000, -500, -400, -300, -1}, -400)
}

func TestP1101FurthestOnes(t *testing.T) {
	midIs(t, []int{-far, far, 3, 4, 5, 8}, 5)
	midIs(t, []int{far, far, far, far}, far)
	midIs(t, []int{-far, -far, -far, -far}, -far)
	midIs(t, []int{far, far, -far, -far}, 0)
	midIs(t, []int{far, far, far, -far}, far)
	midIs(t, []int{far, -far, -far, -far}, -far)
	midIs(t, []int{far, far, far - 1, 0}, far-1)
	midIs(t, []int{-far, -far, 1 - far, 0}, -far)
	midIs(t, []int{far, -far, 1 << 32, 1 << 33}, 3<<31)
	midIs(t, []int{far, -far, -1 << 32, -1 << 33}, -3<<31)
	midIs(t, []int{1 << 31, 1 << 31, 1 << 31, 1 << 31}, 1<<31)
	midIs(t, []int{math.MaxInt32, math.MaxInt32, math.MaxInt32, 0, far}, math.MaxInt32)
	midIs(t, []int{math.MinInt32, math.MinInt32, math.MinInt32, 0, -far}, math.MinInt32)
}

func TestP1101Many(t *testing.T) {
	up := make([]int, 1000)
	for i := range up {
		up[i] = i
	}
	midIs(t, up, 499)
	midIs(t, up[:999], 499)
	midIs(t, up[1:], 500)
	slices.Reverse(up)
	midIs(t, up, 499)
	for i := range up {
		up[i] = i*i - 1000*1000
	}
	midIs(t, up, -501998) // half of 1 - 1000000 and 996004 - 1000000

	d := rand.New(rand.NewSource(11))
	for range 40 {
		for _, reach := range []int{0, 1, 3, 1000, far} {
			for _, n := range []int{4, 12, 100, 999, 1000} {
				l := throw(d, n, reach)
				midIs(t, l, byDocument(l))
			}
		}
	}
}

func TestP1101Thrown(t *testing.T) {
	d := rand.New(rand.NewSource(1101))
	for range 20000 {
		l := throw(d, 4+d.Intn(12), 1<<d.Intn(41))
		want := byDocument(l)
		midIs(t, l, want)
		d.Shuffle(len(l), func(i, j int) { l[i], l[j] = l[j], l[i] })
		midIs(t, l, want)
		slices.Sort(l)
		midIs(t, l, want)
		slices.Reverse(l)
		midIs(t, l, want)
	}
}

// further are numbers that are too far out, those whose sums wrap round and those that are in bounds by their lowest bits among them.
func further() []int {
	return []int{far + 1, -far - 1, far + 2, -far - 2, 1 << 41, -1 << 41, 1<<62 + 5, -1 << 62, math.MaxInt/2 + 1, math.MinInt/2 - 1, math.MaxInt - 1, math.MaxInt, math.MinInt + 1, math.MinInt}
}

// Numbers further out are refused wherever they stand, even where they would be the one that goes.
func TestP9NumbersFurtherOut(t *testing.T) {
	for _, v := range further() {
		for _, n := range []int{1, 3, 4, 5, 12, 1000} {
			noneIs(t, slices.Repeat([]int{v}, n))
			for _, at := range []int{0, n / 2, n - 1} {
				for _, other := range []int{0, 7, -7, far, -far} {
					l := slices.Repeat([]int{other}, n)
					l[at] = v
					noneIs(t, l)
				}
			}
		}
		for _, w := range further() {
			eachOrder([]int{v, w, 3, 4}, func(l []int) { noneIs(t, l) })
			noneIs(t, []int{v, v, w, w, v, w})
		}
	}
}

func TestP9MoreNumbers(t *testing.T) {
	for _, v := range []int{0, 5, -5, far, -far} {
		midIs(t, slices.Repeat([]int{v}, 999), v)
		midIs(t, slices.Repeat([]int{v}, 1000), v)
		for _, n := range []int{1001, 1002, 1003, 1004, 2000, 1000 + 1<<8, 1 << 16, 4 + 1<<16, 1 << 20} {
			noneIs(t, slices.Repeat([]int{v}, n))
		}
	}
	noneIs(t, slices.Repeat(further(), 100))
}

// It lies between the least and the greatest of those left, and so of all the others, whichever of them is the one that may be anything.
func TestP1102Between(t *testing.T) {
	d := rand.New(rand.NewSource(1102))
	for range 20000 {
		l := throw(d, 4+d.Intn(9), 1<<d.Intn(41))
		got, is := Mid(l)
		sorted := slices.Sorted(slices.Values(l))
		if inner := sorted[1 : len(sorted)-1]; !is || got < inner[0] || got > inner[len(inner)-1] {
			t.Fatalf("Mid(%s) = %d, %v, not between %d and %d", show(l), got, is, inner[0], inner[len(inner)-1])
		}
		for i := range l {
			if others := slices.Delete(slices.Clone(l), i, i+1); got < slices.Min(others) || got > slices.Max(others) {
				t.Fatalf("Mid(%s) = %d, further out than all but number %d", show(l), got, i)
			}
		}
	}
}

// One number, whatever it is, moves it no further than the others reach.
func TestP1102One(t *testing.T) {
	d := rand.New(rand.NewSource(2))
	for range 4000 {
		others := throw(d, 3+d.Intn(9), 1<<d.Intn(20))
		least, greatest := slices.Min(others), slices.Max(others)
		var got []int
		for _, one := range []int{-far, far, 0, least - 1, least, least + 1, greatest - 1, greatest, greatest + 1, throw(d, 1, far)[0], throw(d, 1, 1000)[0]} {
			n, is := Mid(slices.Insert(slices.Clone(others), d.Intn(len(others)+1), one))
			if !is || n < least || n > greatest {
				t.Fatalf("%s and %d: %d, %v", show(others), one, n, is)
			}
			got = append(got, n)
		}
		if moved := slices.Max(got) - slices.Min(got); moved > greatest-least {
			t.Fatalf("%s: one number moves it by %d", show(others), moved)
		}
	}
}

// T4: where each of two nodes hears the same clocks, with an error of at most e, and one more that tells each of them anything, what they take as the midpoint is nearer than the clocks are.
func TestP1102TwoNodes(t *testing.T) {
	d := rand.New(rand.NewSource(4))
	for range 20000 {
		clocks := throw(d, 3+d.Intn(9), d.Intn(200))
		e := d.Intn(20)
		a, b := heard(d, clocks, e), heard(d, clocks, e)
		apart := a - b
		if reach := slices.Max(clocks) - slices.Min(clocks); max(apart, -apart) > reach/2+2*e+1 {
			t.Fatalf("%s, an error of %d: %d and %d", show(clocks), e, a, b)
		}
	}
}

// heard is the midpoint of what one node reads of clocks, with one that is arbitrary.
func heard(d *rand.Rand, clocks []int, e int) int {
	l := []int{throw(d, 1, 1<<d.Intn(41))[0]}
	for _, c := range clocks {
		l = append(l, c+throw(d, 1, e)[0])
	}
	d.Shuffle(len(l), func(i, j int) { l[i], l[j] = l[j], l[i] })
	n, _ := Mid(l)
	return n
}

// T4: it does not matter from where clocks are read: all put on by as much, the midpoint is too.
func TestP1102PutOn(t *testing.T) {
	d := rand.New(rand.NewSource(5))
	for range 4000 {
		l := throw(d, 4+d.Intn(9), 1000)
		want := byDocument(l)
		for _, by := range []int{1, -1, 2, 7, -501, 1 << 20, far - 1000, 1000 - far} {
			on := slices.Clone(l)
			for i := range on {
				on[i] += by
			}
			midIs(t, on, want+by)
		}
	}
}

// What stands behind a row, in its spare room, is neither looked at nor changed.
func TestP2SpareRoom(t *testing.T) {
	room := []int{9, 7, 3, 100, 5, -77, 78, -79, far + 1}
	was := slices.Clone(room)
	for n := range 4 {
		noneIs(t, room[:n])
	}
	for n := 4; n <= 8; n++ {
		midIs(t, room[:n], byDocument(was[:n]))
	}
	noneIs(t, room)
	if !slices.Equal(room, was) {
		t.Errorf("the row and what is behind it are %v now, and were %v", room, was)
	}
}

// A row that is changed behind a call is another one; an earlier answer stays.
func TestP2NothingIsKept(t *testing.T) {
	l := []int{0, 1, 2, 100}
	midIs(t, l, 1)
	l[0], l[1] = 50, 60
	midIs(t, l, 55)
	midIs(t, []int{0, 1, 2, 100}, 1)
	clear(l)
	midIs(t, l, 0)
}

func TestP3TheSameAgain(t *testing.T) {
	d := rand.New(rand.NewSource(3))
	var rows [][]int
	for n := range 40 {
		rows = append(rows, throw(d, n, 1000))
	}
	for range 3 {
		for _, l := range rows {
			if len(l) < 4 {
				noneIs(t, l)
				continue
			}
			midIs(t, l, byDocument(l))
		}
		slices.Reverse(rows)
	}
}

func TestP7SideBySide(t *testing.T) {
	l := throw(rand.New(rand.NewSource(7)), 1000, far)
	want := byDocument(l)
	var all sync.WaitGroup
	for range 8 {
		all.Go(func() {
			for range 50 {
				if got, is := Mid(l); got != want || !is {
					t.Errorf("%d, %v, want %d", got, is, want)
				}
			}
		})
	}
	all.Wait()
}

func FuzzMid(f *testing.F) {
	f.Add(0, 1, 2, 100, 0, uint16(0))
	f.Add(-5, -4, -1, 0, 0, uint16(0))
	f.Add(-far, far, far, -far, 3, uint16(1))
	f.Add(math.MinInt, math.MaxInt, math.MaxInt, math.MaxInt, 0, uint16(9))
	f.Add(1, 2, 3, 4, 5, uint16(1001))
	f.Fuzz(func(t *testing.T, a, b, c, d, e int, more uint16) {
		l := append([]int{a, b, c, d}, slices.Repeat([]int{e}, int(more%1100))...)
		for n := range 4 {
			noneIs(t, l[:n])
		}
		if len(l) > 1000 || slices.Min(l) < -far || slices.Max(l) > far {
			noneIs(t, l)
			return
		}
		midIs(t, l, byDocument(l))
	})
}

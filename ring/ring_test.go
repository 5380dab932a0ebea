package ring

import (
	"math"
	"slices"
	"testing"
)

const (
	smallest = -1 << 30
	greatest = 1 << 30
)

// eachRing calls a test for every size of a ring.
func eachRing(test func(n int)) {
	for n := 6; n <= 12; n++ {
		test(n)
	}
}

// next is the node behind another one, counted without a remainder.
func next(n, node int) int {
	node++
	if node == n {
		return 0
	}
	return node
}

// ahead is the node ahead of another one.
func ahead(n, node int) int {
	if node == 0 {
		return n - 1
	}
	return node - 1
}

// oneOn is one step in a direction.
func oneOn(n, node, dir int) int {
	if dir == 1 {
		return next(n, node)
	}
	return ahead(n, node)
}

func atIs(t *testing.T, n, i, d, want int) {
	t.Helper()
	if got := At(n, i, d); got != want {
		t.Errorf("At(%d, %d, %d) = %d, want %d", n, i, d, got, want)
	}
}

func distIs(t *testing.T, n, from, to, dir, want int) {
	t.Helper()
	if got := Dist(n, from, to, dir); got != want {
		t.Errorf("Dist(%d, %d, %d, %d) = %d, want %d", n, from, to, dir, got, want)
	}
}

func endsAre(t *testing.T, n, link, wantA, wantB int) {
	t.Helper()
	if a, b := Ends(n, link); a != wantA || b != wantB {
		t.Errorf("Ends(%d, %d) = %d, %d, want %d, %d", n, link, a, b, wantA, wantB)
	}
}

// linkIs asks for the link in either order of its ends.
func linkIs(t *testing.T, n, a, b, want int, wantIs bool) {
	t.Helper()
	for range 2 {
		if got, is := Link(n, a, b); got != want || is != wantIs {
			t.Errorf("Link(%d, %d, %d) = %d, %v, want %d, %v", n, a, b, got, is, want, wantIs)
		}
		a, b = b, a
	}
}

func wayIs(t *testing.T, n int, owners []int, dir int, want ...int) {
	t.Helper()
	if got := Way(n, owners, dir); !slices.Equal(got, want) {
		t.Errorf("Way(%d, %v, %d) = %v, want %v", n, owners, dir, got, want)
	}
}

func TestP401At(t *testing.T) {
	for _, x := range []struct{ n, i, d, want int }{
		{7, 0, 0, 0},
		{7, 3, 0, 3},
		{7, 3, 2, 5},
		{7, 3, -2, 1},
		{7, 6, 1, 0},
		{7, 6, 2, 1},
		{7, 0, -1, 6},
		{7, 1, -2, 6},
		{6, 0, 6, 0},
		{6, 0, -6, 0},
		{6, 5, 12, 5},
		{6, 5, -12, 5},
		{12, 11, 26, 1},
		{12, 0, -13, 11},
		{9, -1, 0, 8},
		{9, -9, 0, 0},
		{9, -10, 0, 8},
		{9, 9, 0, 0},
		{9, 100, 0, 1},
		{9, -5, -5, 8},
		{9, -4, 4, 0},
		{9, 5, 5, 1},
	} {
		atIs(t, x.n, x.i, x.d, x.want)
	}
}

// Counted step by step, up and down, over the ring's end more than once.
func TestP401AtGoesRound(t *testing.T) {
	eachRing(func(n int) {
		for i := range n {
			up, down := i, i
			for d := range 5 * n {
				atIs(t, n, i, d, up)
				atIs(t, n, i, -d, down)
				atIs(t, n, d, i, up)
				atIs(t, n, -d, i, down)
				up, down = next(n, up), ahead(n, down)
			}
		}
	})
}

func TestP401AtGreatNumbers(t *testing.T) {
	for _, x := range []struct{ n, i, d, want int }{
		{6, greatest, 0, 4},
		{6, 0, greatest, 4},
		{6, greatest, greatest, 2},
		{6, smallest, 0, 2},
		{6, 0, smallest, 2},
		{6, smallest, smallest, 4},
		{7, greatest, 0, 1},
		{7, smallest, 0, 6},
		{7, greatest, greatest, 2},
		{7, smallest, smallest, 5},
		{8, greatest, greatest, 0},
		{8, smallest, smallest, 0},
		{8, smallest + 1, smallest, 1},
		{8, greatest - 1, greatest, 7},
		{9, greatest, 0, 1},
		{9, smallest, 0, 8},
		{10, greatest, 0, 4},
		{10, smallest, 0, 6},
		{11, greatest, 0, 1},
		{11, smallest, 0, 10},
		{12, greatest, 0, 4},
		{12, smallest, 0, 8},
	} {
		atIs(t, x.n, x.i, x.d, x.want)
	}
	eachRing(func(n int) {
		atIs(t, n, greatest, smallest, 0)
		atIs(t, n, smallest, greatest, 0)
		for _, i := range []int{smallest, smallest + 1, -n - 1, -n, -1, 0, 1, n, greatest - 1, greatest} {
			for _, d := range []int{smallest, smallest + 1, -n - 1, -n, -1, 0, 1, n, greatest - 1, greatest} {
				got := At(n, i, d)
				if got < 0 || got >= n || (int64(i)+int64(d)-int64(got))%int64(n) != 0 {
					t.Errorf("At(%d, %d, %d) = %d, not its remainder", n, i, d, got)
				}
			}
		}
	})
}

func TestP401Dist(t *testing.T) {
	for _, x := range []struct{ n, from, to, dir, want int }{
		{7, 6, 0, 1, 1},
		{7, 6, 0, -1, 6},
		{7, 0, 6, 1, 6},
		{7, 0, 6, -1, 1},
		{7, 3, 3, 1, 0},
		{7, 3, 3, -1, 0},
		{7, 2, 5, 1, 3},
		{7, 2, 5, -1, 4},
		{6, 1, 5, 1, 4},
		{6, 1, 5, -1, 2},
		{6, 1, 4, 1, 3},
		{6, 1, 4, -1, 3},
		{12, 0, 11, 1, 11},
		{12, 11, 0, 1, 1},
		{12, 3, 9, 1, 6},
		{12, 3, 9, -1, 6},
	} {
		distIs(t, x.n, x.from, x.to, x.dir, x.want)
	}
}

// As many as are counted on the way from each node to each one, at most once round.
func TestP401DistIsCounted(t *testing.T) {
	eachRing(func(n int) {
		for from := range n {
			for _, dir := range []int{1, -1} {
				to := from
				for steps := range n {
					distIs(t, n, from, to, dir, steps)
					atIs(t, n, from, dir*steps, to)
					to = oneOn(n, to, dir)
				}
			}
		}
	})
}

func TestP401Ends(t *testing.T) {
	for _, x := range []struct{ n, link, a, b int }{
		{7, 0, 0, 1},
		{7, 3, 3, 4},
		{7, 5, 5, 6},
		{7, 6, 6, 0},
		{7, 7, 0, 2},
		{7, 10, 3, 5},
		{7, 11, 4, 6},
		{7, 12, 5, 0},
		{7, 13, 6, 1},
		{6, 5, 5, 0},
		{6, 6, 0, 2},
		{6, 10, 4, 0},
		{6, 11, 5, 1},
		{12, 11, 11, 0},
		{12, 12, 0, 2},
		{12, 22, 10, 0},
		{12, 23, 11, 1},
	} {
		endsAre(t, x.n, x.link, x.a, x.b)
		linkIs(t, x.n, x.a, x.b, x.link, true)
	}
}

func TestP401EachLink(t *testing.T) {
	eachRing(func(n int) {
		for node := range n {
			one := next(n, node)
			two := next(n, one)
			endsAre(t, n, node, node, one)
			endsAre(t, n, n+node, node, two)
			linkIs(t, n, node, one, node, true)
			linkIs(t, n, node, two, n+node, true)
		}
	})
}

// From three steps to half the ring, and further in the other direction, there is none; nor from a node to itself.
func TestP401NoLink(t *testing.T) {
	eachRing(func(n int) {
		for a := range n {
			linkIs(t, n, a, a, 0, false)
			b := next(n, next(n, a))
			for steps := 3; steps <= n-3; steps++ {
				b = next(n, b)
				linkIs(t, n, a, b, 0, false)
			}
		}
	})
	linkIs(t, 6, 0, 3, 0, false)
	linkIs(t, 6, 2, 5, 0, false)
	linkIs(t, 12, 5, 11, 0, false)
	linkIs(t, 7, 0, 4, 0, false)
}

// Each node has two neighbours on either side: four links, and no two links have the same ends.
func TestP401FourLinksEach(t *testing.T) {
	eachRing(func(n int) {
		links := map[int]int{}
		for a := range n {
			count := 0
			for b := range n {
				if link, is := Link(n, a, b); is {
					count++
					links[link]++
				}
			}
			if count != 4 {
				t.Errorf("%d nodes: node %d has %d links", n, a, count)
			}
		}
		for link := range 2 * n {
			if links[link] != 2 {
				t.Errorf("%d nodes: link %d has %d ends", n, link, links[link])
			}
		}
		if len(links) != 2*n {
			t.Errorf("%d nodes: %d links", n, len(links))
		}
	})
}

func noNodes(n int) []int {
	return []int{math.MinInt, math.MinInt + 1, math.MinInt + n, math.MinInt32, smallest, -2 * n, -n - 1, -n, 1 - n, 2 - n, -2, -1,
		n, n + 1, n + 2, 2*n - 1, 2 * n, greatest, 1 << 32, 1<<32 + 1, math.MaxInt - n, math.MaxInt - 1, math.MaxInt}
}

func TestP401LinkOfNoNodes(t *testing.T) {
	eachRing(func(n int) {
		for _, none := range noNodes(n) {
			for node := range n {
				linkIs(t, n, none, node, 0, false)
			}
			for _, other := range noNodes(n) {
				linkIs(t, n, none, other, 0, false)
			}
			// Beside one another, as far as numbers go, they are no neighbours either.
			linkIs(t, n, none, none+1, 0, false)
			linkIs(t, n, none, none-2, 0, false)
		}
	})
}

func TestP402Way(t *testing.T) {
	wayIs(t, 6, []int{0}, 1, 1, 2, 3, 4, 5)
	wayIs(t, 6, []int{0}, -1, 5, 4, 3, 2, 1)
	wayIs(t, 6, []int{5}, 1, 0, 1, 2, 3, 4)
	wayIs(t, 6, []int{5}, -1, 4, 3, 2, 1, 0)
	wayIs(t, 8, []int{3}, 1, 4, 5, 6, 7, 0, 1, 2)
	wayIs(t, 8, []int{3}, -1, 2, 1, 0, 7, 6, 5, 4)
	wayIs(t, 6, []int{2, 3}, 1, 4, 5, 0, 1)
	wayIs(t, 6, []int{2, 3}, -1, 1, 0, 5, 4)
	wayIs(t, 7, []int{0, 1}, 1, 2, 3, 4, 5, 6)
	wayIs(t, 7, []int{0, 1}, -1, 6, 5, 4, 3, 2)
	wayIs(t, 7, []int{5, 6}, 1, 0, 1, 2, 3, 4)
	wayIs(t, 7, []int{5, 6}, -1, 4, 3, 2, 1, 0)
	wayIs(t, 7, []int{6, 0}, 1, 1, 2, 3, 4, 5)
	wayIs(t, 7, []int{6, 0}, -1, 5, 4, 3, 2, 1)
	wayIs(t, 12, []int{11, 0}, 1, 1, 2, 3, 4, 5, 6, 7, 8, 9, 10)
	wayIs(t, 12, []int{11, 0}, -1, 10, 9, 8, 7, 6, 5, 4, 3, 2, 1)
}

func TestP402NoneOfNone(t *testing.T) {
	eachRing(func(n int) {
		for _, dir := range []int{1, -1} {
			wayIs(t, n, nil, dir)
			wayIs(t, n, []int{}, dir)
			wayIs(t, n, []int{1, 2, 3}[:0], dir)
		}
	})
}

// wayByDocument goes on one by one till an owner stands there again.
func wayByDocument(n int, owners []int, dir int) []int {
	if len(owners) == 0 {
		return nil
	}
	node := owners[0]
	if dir == 1 {
		node = owners[len(owners)-1]
	}
	var way []int
	for {
		node = oneOn(n, node, dir)
		if slices.Contains(owners, node) {
			return way
		}
		way = append(way, node)
	}
}

// allOwners are each node, and each one with the next.
func allOwners(n int) [][]int {
	var all [][]int
	for node := range n {
		all = append(all, []int{node}, []int{node, next(n, node)})
	}
	return all
}

func TestP402WayOfAllOwners(t *testing.T) {
	eachRing(func(n int) {
		for _, owners := range allOwners(n) {
			for _, dir := range []int{1, -1} {
				wayIs(t, n, owners, dir, wayByDocument(n, owners, dir)...)
			}
		}
	})
}

func TestP403WaysAreEachOtherTurnedRound(t *testing.T) {
	eachRing(func(n int) {
		for _, owners := range allOwners(n) {
			up, down := Way(n, owners, 1), Way(n, owners, -1)
			all := slices.Concat(owners, up)
			slices.Reverse(down)
			if !slices.Equal(up, down) {
				t.Errorf("%d nodes, owners %v: %v up, %v down, turned round", n, owners, up, down)
			}
			slices.Sort(all)
			for node := range n {
				if len(all) != n || all[node] != node {
					t.Fatalf("%d nodes, owners %v: with them %v is not each node once", n, owners, up)
				}
			}
		}
	})
}

// Of what may not be handed in only this is promised: each call ends, none panics.
func TestP1AnyNumbers(t *testing.T) {
	numbers := []int{math.MinInt, math.MinInt + 1, math.MinInt32, -13, -2, -1, 0, 1, 2, 3, 5, 6, 12, 13, 24, 1 << 31, math.MaxInt - 1, math.MaxInt}
	for _, n := range numbers {
		for _, a := range numbers {
			Ends(n, a)
			Way(n, nil, a)
			for _, b := range numbers {
				At(n, a, b)
				Link(n, a, b)
				Way(n, []int{a}, b)
				for _, c := range numbers {
					Dist(n, a, b, c)
					Way(n, []int{a, b}, c)
					Way(n, []int{a, b, c, a}, b)
				}
			}
		}
	}
}

func TestP2NothingHandedInIsChanged(t *testing.T) {
	for _, dir := range []int{1, -1} {
		for size := range 5 {
			room := []int{6, 0, 3, 2, 77, 78}
			Way(7, room[:size], dir)
			if !slices.Equal(room, []int{6, 0, 3, 2, 77, 78}) {
				t.Errorf("the owners are %v now", room)
			}
		}
	}
}

func TestP2AnswersAreNewMemory(t *testing.T) {
	for _, owners := range allOwners(8) {
		given := slices.Clone(owners)
		for _, dir := range []int{1, -1} {
			kept := Way(8, owners, dir)
			spoilt := Way(8, owners, dir)
			spoilt = spoilt[:cap(spoilt)]
			for i := range spoilt {
				spoilt[i] = 99
			}
			want := wayByDocument(8, given, dir)
			if !slices.Equal(kept, want) {
				t.Errorf("owners %v: one answer is changed by what is done to another", given)
			}
			wayIs(t, 8, owners, dir, want...)
			if !slices.Equal(owners, given) {
				t.Errorf("owners %v are %v now", given, owners)
			}
		}
	}
}

func TestP3TheSameCallsAnswerTheSame(t *testing.T) {
	for range 3 {
		wayIs(t, 6, []int{5, 0}, 1, 1, 2, 3, 4)
		wayIs(t, 6, []int{5, 0}, -1, 4, 3, 2, 1)
		linkIs(t, 6, 5, 1, 11, true)
		distIs(t, 6, 5, 1, 1, 2)
		endsAre(t, 6, 11, 5, 1)
		atIs(t, 6, 5, 2, 1)
	}
}

func FuzzRing(f *testing.F) {
	f.Add(7, 6, 0, 1)
	f.Add(6, -1, 1<<30, -1)
	f.Add(12, 11, 1, 0)
	f.Add(0, math.MinInt, math.MaxInt, 2)
	f.Fuzz(func(t *testing.T, n, a, b, dir int) {
		at, way := At(n, a, b), Way(n, []int{a, b}, dir)
		link, is := Link(n, a, b)
		Dist(n, a, b, dir)
		Ends(n, a)
		if n < 6 || n > 12 {
			return
		}
		if smallest <= a && a <= greatest && smallest <= b && b <= greatest && (at < 0 || at >= n || (a+b-at)%n != 0) {
			t.Errorf("At(%d, %d, %d) = %d", n, a, b, at)
		}
		nodes := 0 <= a && a < n && 0 <= b && b < n
		if is {
			x, y := Ends(n, link)
			if !nodes || !(x == a && y == b || x == b && y == a) {
				t.Errorf("Link(%d, %d, %d) = %d, whose ends are %d, %d", n, a, b, link, x, y)
			}
		}
		if nodes && b == next(n, a) && (dir == 1 || dir == -1) && !slices.Equal(way, wayByDocument(n, []int{a, b}, dir)) {
			t.Errorf("Way(%d, [%d %d], %d) = %v", n, a, b, dir, way)
		}
	})
}

package queue_test

import (
	"math"
	"math/rand/v2"
	"slices"
	"testing"

	"aileron/api"
	"aileron/queue"
)

// picked looks at what Pick tells.
func picked(t *testing.T, l []queue.Sub, gens []uint64, want int, err api.Errno) {
	t.Helper()
	if k, e := queue.Pick(l, gens); k != want || e != err {
		t.Fatalf("Pick(%v, %v): %d, %v, not %d, %v", l, gens, k, e, want, err)
	}
}

// row is a subscription of each rank; each has something queued behind generation 4.
func row(ranks ...int) []queue.Sub {
	l := []queue.Sub{}
	for k, rank := range ranks {
		l = append(l, queue.Sub{Topic: k, Rank: rank, Cursor: queue.Cursor{Next: 5, Cap: 2}})
	}
	return l
}

// has are the newest generations of which those told have something queued.
func has(all int, some ...int) []uint64 {
	gens := slices.Repeat([]uint64{4}, all)
	for _, k := range some {
		gens[k] = 5 + uint64(k)
	}
	return gens
}

// P11.2: of no subscriptions, and of one.
func TestPickOfNoneAndOfOne(t *testing.T) {
	picked(t, nil, nil, -1, api.OK)
	picked(t, []queue.Sub{}, nil, -1, api.OK)
	picked(t, nil, []uint64{}, -1, api.OK)
	for _, rank := range []int{math.MinInt, -1, 0, 1, 255, 256, math.MaxInt} {
		picked(t, row(rank), has(1), -1, api.OK)
		picked(t, row(rank), has(1, 0), 0, api.OK)
	}
}

// P11.2: of three ranks in all orders, with each choice of those that have something queued.
func TestPickOfThree(t *testing.T) {
	ranks := []int{math.MinInt, -2, -1, 0, 1, 255, math.MaxInt}
	for _, a := range ranks {
		for _, b := range ranks {
			for _, c := range ranks {
				l := row(a, b, c)
				for some := range 8 {
					gens := has(3)
					for k := range gens {
						if some>>k&1 == 1 {
							gens[k] = 5
						}
					}
					want, err := wordsPick(l, gens)
					picked(t, l, gens, want, err)
				}
			}
		}
	}
}

// P11.2: several of the same greatest rank, in each place of the row: the first of those that have something.
func TestPickOfTheSameRank(t *testing.T) {
	const all = 8
	for first := range all {
		for second := first + 1; second < all; second++ {
			ranks := slices.Repeat([]int{2}, all)
			ranks[first], ranks[second] = 7, 7
			l := row(ranks...)
			every := has(all, 0, 1, 2, 3, 4, 5, 6, 7)
			picked(t, l, every, first, api.OK)
			every[first] = 4
			picked(t, l, every, second, api.OK)
			every[second] = 0
			least := 0
			for least == first || least == second {
				least++
			}
			picked(t, l, every, least, api.OK)
		}
	}
}

// P11.2: ranks below 0; only one of a lower rank has something queued; none has.
func TestPickInNumbers(t *testing.T) {
	picked(t, row(-5, -3, -4), has(3, 0, 1, 2), 1, api.OK)
	picked(t, row(-5, -3, -4), has(3, 0, 2), 2, api.OK)
	picked(t, row(-5, -3, -4), has(3, 0), 0, api.OK)
	picked(t, row(-1, 0), has(2, 0, 1), 1, api.OK)
	picked(t, row(9, 8, 7, 1), has(4, 3), 3, api.OK)
	picked(t, row(1, 9, 8, 7), has(4, 0), 0, api.OK)
	picked(t, row(9, 8, 7, 1), has(4), -1, api.OK)
	picked(t, row(9, 9, 9), has(3), -1, api.OK)
	picked(t, row(1, 2, 3), has(3, 0, 1, 2), 2, api.OK)
	picked(t, row(3, 2, 1), has(3, 0, 1, 2), 0, api.OK)
	picked(t, row(2, 1, 3, 3), has(4, 0, 1), 0, api.OK)
}

// P11.2: neither how many are queued, nor how many were lost or taken, nor the topic, nor the room tells who goes first.
func TestPickGoesByRankAndPlace(t *testing.T) {
	l := []queue.Sub{
		{Topic: 9, Rank: 1, Cursor: queue.Cursor{Next: 0, Cap: 15, Got: 99, Lost: 99}},
		{Topic: 9, Rank: 3, Cursor: queue.Cursor{Next: last, Cap: 1}},
		{Topic: -4, Rank: 3, Cursor: queue.Cursor{Next: 0, Cap: 15, Got: 7, Lost: 1}},
	}
	picked(t, l, []uint64{last, last, last}, 1, api.OK)
	picked(t, l, []uint64{last, last - 1, last}, 2, api.OK)
	l[2].Cursor.Next = last + 1
	picked(t, l, []uint64{0, last - 1, last}, 0, api.OK)
}

// P11.2: not as many of the one as of the other, a cursor that is not right, a generation that is none, at each place, and which is told first.
func TestPickOfWrongOnes(t *testing.T) {
	picked(t, row(1, 2), []uint64{5}, 0, api.ErrArg)
	picked(t, row(1), []uint64{5, 5}, 0, api.ErrArg)
	picked(t, row(1), nil, 0, api.ErrArg)
	picked(t, nil, []uint64{5}, 0, api.ErrArg)
	picked(t, row(1), []uint64{1 << 63, 5}, 0, api.ErrArg)
	picked(t, nil, []uint64{1 << 63}, 0, api.ErrArg)
	for k := range 3 {
		for _, gen := range []uint64{1 << 63, 1<<63 + 5, math.MaxUint64} {
			gens := has(3, 0, 1, 2)
			gens[k] = gen
			picked(t, row(1, 2, 3), gens, 0, api.ErrRange)
		}
		gens := has(3)
		gens[k] = 1<<63 - 1
		picked(t, row(1, 2, 3), gens, k, api.OK)
		for _, c := range []queue.Cursor{{}, {Next: 5, Cap: 16}, {Next: 5, Cap: -1}, {Next: 1<<63 + 1, Cap: 2}} {
			l := row(1, 2, 3)
			l[k].Cursor = c
			picked(t, l, has(3), 0, api.ErrArg)
			picked(t, l, has(3, 0, 1, 2), 0, api.ErrArg)
			for none := range 3 {
				gens := has(3, 0, 1, 2)
				gens[none] = 1 << 63
				picked(t, l, gens, 0, api.ErrArg)
			}
		}
		l := row(1, 2, 3)
		l[k].Cursor.Next = 1 << 63
		gens = has(3)
		picked(t, l, gens, -1, api.OK)
	}
}

// P11.2: drawn rows, held against the promise's words.
func TestPickOfDrawnRows(t *testing.T) {
	r := rand.New(rand.NewPCG(11, 2))
	for range 30000 {
		n := r.IntN(10)
		l, gens := make([]queue.Sub, n), make([]uint64, n)
		for k := range l {
			l[k] = queue.Sub{Topic: r.IntN(4), Rank: r.IntN(5) - 2, Cursor: queue.Cursor{Next: r.Uint64N(6), Cap: 1 + r.IntN(15)}}
			gens[k] = r.Uint64N(6)
		}
		if n > 0 && r.IntN(8) == 0 {
			l[r.IntN(n)].Cursor = queue.Cursor{Next: edges()[r.IntN(len(edges()))], Cap: rooms()[r.IntN(len(rooms()))]}
		}
		if n > 0 && r.IntN(8) == 0 {
			gens[r.IntN(n)] = edges()[r.IntN(len(edges()))]
		}
		want, err := wordsPick(l, gens)
		picked(t, l, gens, want, err)
	}
}

// P11.2: a row of many is gone through at once.
func TestPickOfMany(t *testing.T) {
	const all = 200000
	l, gens := make([]queue.Sub, all), make([]uint64, all)
	for k := range l {
		l[k] = queue.Sub{Rank: k % 256, Cursor: queue.Cursor{Next: 5, Cap: 2}}
		gens[k] = 4
	}
	picked(t, l, gens, -1, api.OK)
	gens[all-1] = 5
	picked(t, l, gens, all-1, api.OK)
	for k := range gens {
		gens[k] = 9
	}
	picked(t, l, gens, 255, api.OK)
	gens[all-1] = 1 << 63
	picked(t, l, gens, 0, api.ErrRange)
}

// P11.2, R2: what is handed in is not turned, nor what stands behind its length, and it is not kept.
func TestPickTurnsAndKeepsNothing(t *testing.T) {
	l, gens := row(1, 3, 3, 9, 9), has(5, 1, 2, 3, 4)
	hold, keep := slices.Clone(l), slices.Clone(gens)
	for range 3 {
		picked(t, l[:3], gens[:3], 1, api.OK)
		picked(t, l[:3], gens[:2], 0, api.ErrArg)
		if !slices.Equal(l, hold) || !slices.Equal(gens, keep) {
			t.Fatal(l, gens)
		}
	}
	l[1].Rank, gens[2] = 0, 4
	picked(t, l[:3], gens[:3], 1, api.OK)
	l[0].Rank, gens[0] = 5, 6
	picked(t, l[:3], gens[:3], 0, api.OK)
	l[0].Cursor.Cap = 0
	picked(t, l[:3], gens[:3], 0, api.ErrArg)
	l[0].Cursor.Cap, gens[0] = 2, 1<<63
	picked(t, l[:3], gens[:3], 0, api.ErrRange)
}

package quor_test

import (
	"bytes"
	"fmt"
	"math"
	"math/rand"
	"slices"
	"testing"

	"tidemill/api"
	"tidemill/quor"
)

func cell(at, epoch int, b ...byte) api.Cell { return api.Cell{At: at, Epoch: epoch, Bytes: b} }

func same(a, b []api.Cell) bool { return fmt.Sprint(a) == fmt.Sprint(b) }

func TestNeed(t *testing.T) { // P9.1
	for n, want := range map[int]int{
		math.MinInt64: 1, -2: 1, -1: 1, 0: 1, 1: 1, 2: 2, 3: 2, 4: 3, 5: 3, 6: 4, 7: 4, 8: 5, 9: 5, 1000: 501,
		math.MaxInt64: 1 << 62, math.MaxInt64 - 1: 1 << 62,
	} {
		if got := quor.Need(n); got != want {
			t.Errorf("Need(%d): %d", n, got)
		}
	}
}

func TestMerge(t *testing.T) { // P9.1
	type replies = [][]api.Cell
	for k, c := range []struct {
		replies replies
		want    []api.Cell
	}{
		{nil, nil},
		{replies{nil, {}}, nil},
		{replies{{cell(1, 2, 'a')}, {cell(1, 3, 'b')}}, []api.Cell{cell(1, 3, 'b')}},
		{replies{{cell(1, 3, 'b')}, {cell(1, 2, 'a')}}, []api.Cell{cell(1, 3, 'b')}},
		{replies{{cell(1, 2, 'a')}, {cell(1, 2, 'b')}}, []api.Cell{cell(1, 2, 'a')}},
		{replies{{}, {cell(1, 2, 'b'), cell(1, 2, 'a')}, {cell(1, 2, 'c')}}, []api.Cell{cell(1, 2, 'b')}},
		{replies{{cell(1, 2, 'a'), cell(1, 4, 'b'), cell(1, 4, 'c'), cell(1, 3)}}, []api.Cell{cell(1, 4, 'b')}},
		{replies{{cell(9, 0), cell(-3, 1), cell(4, 1)}, {cell(5000, 7), cell(4, -1), cell(0, 0, 1)}}, []api.Cell{cell(-3, 1), cell(0, 0, 1), cell(4, 1), cell(9, 0), cell(5000, 7)}},
		{replies{{cell(1, math.MinInt64, 'a')}, {cell(1, math.MinInt64, 'b')}}, []api.Cell{cell(1, math.MinInt64, 'a')}},
		{replies{{cell(1, -1, 'a')}, {cell(1, 0)}, {cell(1, -2, 'b')}}, []api.Cell{cell(1, 0)}},
		{replies{{cell(1, math.MinInt64, 'a')}, {cell(1, math.MaxInt64, 'b')}}, []api.Cell{cell(1, math.MaxInt64, 'b')}},
	} {
		if got := quor.Merge(c.replies); !same(got, c.want) {
			t.Errorf("%d: %v", k, got)
		}
	}
}

func TestChosen(t *testing.T) { // P9.2
	a, b, other := cell(4, 2, 1), cell(4, 3, 1), cell(5, 9, 9)
	for k, c := range []struct {
		replies [][]api.Cell
		n       int
		want    api.Cell
		ok      bool
	}{
		{[][]api.Cell{{a}, {a}, nil}, 3, a, true},
		{[][]api.Cell{{a}, nil, {other, a}}, 3, a, true},
		{[][]api.Cell{{a}, nil, nil}, 3, api.Cell{}, false},
		{[][]api.Cell{{a}, {b}, nil}, 3, api.Cell{}, false},               // other epochs
		{[][]api.Cell{{a}, {cell(4, 2, 2)}, nil}, 3, api.Cell{}, false},   // other bytes
		{[][]api.Cell{{a}, {b, a}, nil}, 3, api.Cell{}, false},            // the first cell of the slot alone
		{[][]api.Cell{{a, a}, nil, nil}, 3, api.Cell{}, false},            // a reply counts once
		{[][]api.Cell{{a, b}, {other, a, b}, {b}}, 3, a, true},            // likewise
		{[][]api.Cell{{a}, {a}, {a}}, 4, a, true},                         // three of four
		{[][]api.Cell{{a}, {a}}, 4, api.Cell{}, false},                    // two of four
		{[][]api.Cell{{a}, {b}}, 1, b, true},                              // the highest epoch
		{[][]api.Cell{{b}, {a}}, 1, b, true},                              // likewise
		{[][]api.Cell{{a}, {b}, {a}, {b}}, 3, b, true},                    // likewise
		{[][]api.Cell{{a}, {cell(4, 2, 2)}}, 1, a, true},                  // the first in the order of the replies
		{[][]api.Cell{{cell(4, 2, 2)}, {a}}, 0, cell(4, 2, 2), true},      // a quorum of none is one
		{[][]api.Cell{{cell(4, 2, 2)}, {a}, {a}}, 1, cell(4, 2, 2), true}, // however many there are
		{[][]api.Cell{{cell(4, 2, 2)}, {a}, {a}}, 3, a, true},
		{[][]api.Cell{{b}, {a}, {a}}, 3, a, true}, // b has no quorum
		{[][]api.Cell{{a}}, -5, a, true},
		{[][]api.Cell{{a}, {a}, {a}}, math.MaxInt64, api.Cell{}, false},
		{[][]api.Cell{{cell(4, 0)}, {cell(4, 0)}}, 3, cell(4, 0), true}, // no bytes
		{[][]api.Cell{{cell(4, -7, 1)}, {cell(4, -7, 1)}}, 3, cell(4, -7, 1), true},
		{[][]api.Cell{{other}, {other}}, 3, api.Cell{}, false},
		{nil, 1, api.Cell{}, false},
	} {
		got, ok := quor.Chosen(c.replies, 4, c.n)
		if ok != c.ok || !same([]api.Cell{got}, []api.Cell{c.want}) {
			t.Errorf("%d: %v, %v", k, got, ok)
		}
	}
	for _, at := range []int{math.MinInt64, -1, 4096, math.MaxInt64} {
		x := cell(at, 1, 1)
		if got, ok := quor.Chosen([][]api.Cell{{x}, {x}}, at, 3); !ok || !same([]api.Cell{got}, []api.Cell{x}) {
			t.Error(at, got, ok)
		}
	}
}

func TestHoles(t *testing.T) { // P9.2
	at := func(l ...int) []api.Cell {
		var cells []api.Cell
		for _, n := range l {
			cells = append(cells, cell(n, 0))
		}
		return cells
	}
	for k, c := range []struct {
		cells []api.Cell
		want  []int
	}{
		{nil, nil},
		{at(0), nil},
		{at(0, 2), []int{1}},
		{at(3), []int{0, 1, 2}},
		{at(5, 3, 3, 0), []int{1, 2, 4}},
		{at(2, 1, 0), nil},
		{at(1, 4096), []int{0}},
		{at(4096, 9999, math.MaxInt64), nil},
		{at(-1), nil},
		{at(math.MinInt64, -1, 1), []int{0}},
	} {
		if got := quor.Holes(c.cells); !slices.Equal(got, c.want) {
			t.Errorf("%d: %v", k, got)
		}
	}
	got := quor.Holes(at(4095))
	if len(got) != 4095 || got[0] != 0 || got[4094] != 4094 {
		t.Error(len(got))
	}
}

// anyReplies are replies of n nodes about few slots, epochs and bytes.
func anyReplies(rnd *rand.Rand, n int) [][]api.Cell {
	replies := make([][]api.Cell, n)
	for i := range replies {
		for range rnd.Intn(5) {
			replies[i] = append(replies[i], cell(rnd.Intn(3), rnd.Intn(3), byte(rnd.Intn(2))))
		}
	}
	return replies
}

func TestAgainstTheWords(t *testing.T) { // P9.1, P9.2
	rnd := rand.New(rand.NewSource(1))
	for range 5000 {
		n := rnd.Intn(6)
		replies := anyReplies(rnd, n)
		all := slices.Concat(replies...)
		var want []api.Cell
		for at := range 3 {
			found := false
			var top api.Cell
			for _, c := range all {
				if c.At == at && (!found || c.Epoch > top.Epoch) {
					found, top = true, c
				}
			}
			if found {
				want = append(want, top)
			}
		}
		if got := quor.Merge(replies); !same(got, want) {
			t.Fatal(replies, got, want)
		}
		at := rnd.Intn(3)
		var top api.Cell
		found := false
		first := func(reply []api.Cell) (api.Cell, bool) {
			for _, c := range reply {
				if c.At == at {
					return c, true
				}
			}
			return api.Cell{}, false
		}
		for _, reply := range replies {
			c, ok := first(reply)
			votes := 0
			for _, other := range replies {
				d, ok2 := first(other)
				if ok2 && c.Epoch == d.Epoch && bytes.Equal(c.Bytes, d.Bytes) {
					votes++
				}
			}
			if ok && 2*votes > n && (!found || c.Epoch > top.Epoch) {
				found, top = true, c
			}
		}
		if got, ok := quor.Chosen(replies, at, n); ok != found || !same([]api.Cell{got}, []api.Cell{top}) {
			t.Fatal(replies, at, n, got, ok, top, found)
		}
	}
}

func TestWhatWasChosenIsMerged(t *testing.T) { // P9.3
	rnd := rand.New(rand.NewSource(2))
	for range 500 {
		n := 1 + rnd.Intn(7)
		nodes := make([][]api.Cell, n) // what each node has of one slot
		quorum := func() []int { return rnd.Perm(n)[:quor.Need(n)] }
		var chosen []byte
		for epoch := range 8 {
			replies := make([][]api.Cell, 0, n)
			for _, i := range quorum() {
				replies = append(replies, nodes[i])
			}
			merged := quor.Merge(replies)
			value := []byte{byte(epoch)}
			if len(merged) == 1 {
				value = merged[0].Bytes
			}
			if chosen != nil && !bytes.Equal(value, chosen) {
				t.Fatal(nodes, value, chosen)
			}
			for _, i := range rnd.Perm(n)[:rnd.Intn(n+1)] {
				nodes[i] = []api.Cell{cell(0, epoch, value...)}
			}
			if c, ok := quor.Chosen(nodes, 0, n); ok {
				chosen = c.Bytes
			}
		}
	}
}

func TestNothingIsShared(t *testing.T) { // R3
	replies := [][]api.Cell{{cell(1, 2, 7)}, {cell(1, 2, 7)}}
	merged := quor.Merge(replies)
	merged[0].Bytes[0] = 9
	c, _ := quor.Chosen(replies, 1, 3)
	c.Bytes[0] = 8
	if !same(replies[0], []api.Cell{cell(1, 2, 7)}) || !same(replies[1], []api.Cell{cell(1, 2, 7)}) {
		t.Error(replies)
	}
}

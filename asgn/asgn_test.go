package asgn_test

import (
	"math"
	"math/big"
	"math/rand"
	"slices"
	"testing"

	"tidemill/api"
	"tidemill/asgn"
)

// alive has true where the text has an x.
func alive(text string) []bool {
	var l []bool
	for _, c := range text {
		l = append(l, c == 'x')
	}
	return l
}

func TestAssign(t *testing.T) { // P22.1
	for k, c := range []struct {
		tasks int
		alive string
		prev  []int
		want  []int
	}{
		{3, "xx", nil, []int{0, 1, 0}},
		{3, "-x", []int{0, 1, 0}, []int{1, 1, 1}},
		{3, "xx", []int{0, 1, 0}, []int{0, 1, 0}},
		{3, "xx", []int{1, 1, 1}, []int{1, 1, 0}}, // up to the share of 2
		{4, "xx", []int{1, 1, 1, 0}, []int{1, 1, 0, 0}},
		{4, "xx", []int{1, 1, 1, 1}, []int{1, 1, 0, 0}},
		{5, "xxx", []int{2, 2, 2, 2, 2}, []int{2, 2, 0, 1, 0}}, // the others to the fewest, of several to the first
		{5, "x-x", []int{1, 1, 1, 1, 2}, []int{0, 0, 2, 0, 2}},
		{4, "xx", []int{-1, 0, 1}, []int{0, 0, 1, 1}}, // shorter: no element for the last task
		{4, "xx", []int{-1, 1, 1}, []int{0, 1, 1, 0}},
		{2, "xx", []int{1, 0, 1, 1}, []int{1, 0}}, // longer
		{3, "xx", []int{2, -2, math.MaxInt64}, []int{0, 1, 0}},
		{3, "xx", []int{math.MinInt64, 5, 1}, []int{0, 0, 1}},
		{3, "--", []int{0, 1, 0}, []int{-1, -1, -1}},
		{3, "", nil, []int{-1, -1, -1}},
		{0, "xx", []int{1}, nil},
		{-1, "xx", nil, nil},
		{math.MinInt64, "", nil, nil},
		{1, "xxx", []int{2}, []int{2}},
		{2, "xxx", []int{2, 2}, []int{2, 0}}, // the share is 1
		{3, "x--x", []int{1, 2, 3}, []int{0, 0, 3}},
	} {
		if got := asgn.Assign(c.tasks, alive(c.alive), c.prev); !slices.Equal(got, c.want) {
			t.Errorf("%d: %v, want %v", k, got, c.want)
		}
	}
	for _, tasks := range []int{999, 1000, 1001, math.MaxInt64} {
		if got := asgn.Assign(tasks, alive("xx"), nil); len(got) != min(tasks, 1000) || slices.Min(got) != 0 || slices.Max(got) != 1 {
			t.Error(tasks, len(got))
		}
		if got := asgn.Assign(tasks, nil, nil); len(got) != min(tasks, 1000) || slices.Max(got) != -1 {
			t.Error(tasks, len(got))
		}
	}
	many := slices.Repeat([]bool{true}, 1000000)
	if got := asgn.Assign(1000, many, nil); got[0] != 0 || got[999] != 999 {
		t.Error(got[0], got[999])
	}
	long := slices.Repeat([]int{0}, 1500) // above 1000 it counts as 1000, also for the share
	if got := asgn.Assign(1500, alive("xx"), long); len(got) != 1000 || slices.Index(got, 1) != 500 {
		t.Error(len(got), slices.Index(got, 1))
	}
}

func TestAssignments(t *testing.T) { // P22.1, P22.3
	rnd := rand.New(rand.NewSource(1))
	for range 5000 {
		tasks := rnd.Intn(20)
		up := make([]bool, rnd.Intn(6))
		for i := range up {
			up[i] = rnd.Intn(3) > 0
		}
		prev := make([]int, rnd.Intn(22))
		for i := range prev {
			prev[i] = rnd.Intn(8) - 1
		}
		kept, keptUp := slices.Clone(prev), slices.Clone(up)
		got := asgn.Assign(tasks, up, prev)
		if !slices.Equal(kept, prev) || !slices.Equal(keptUp, up) || len(got) != tasks { // R3
			t.Fatal(prev, up, got)
		}
		n := 0
		for _, ok := range up {
			if ok {
				n++
			}
		}
		if n == 0 {
			if tasks > 0 && slices.Max(got) != -1 {
				t.Fatal(got)
			}
			continue
		}
		share := (tasks + n - 1) / n
		load := make([]int, len(up))
		want := slices.Repeat([]int{-1}, tasks)
		for i := range want {
			if i < len(prev) && prev[i] >= 0 && prev[i] < len(up) && up[prev[i]] && load[prev[i]] < share {
				want[i] = prev[i]
				load[prev[i]]++
			}
		}
		for i := range want {
			for w := range up {
				if want[i] < 0 && up[w] {
					fewest := true
					for x := range up {
						fewest = fewest && (!up[x] || load[w] <= load[x])
					}
					if fewest {
						want[i] = w
						load[w]++
					}
				}
			}
		}
		if !slices.Equal(got, want) {
			t.Fatal(tasks, up, prev, got, want)
		}
		for w := range up {
			if load[w] > share || load[w] > 0 && !up[w] {
				t.Fatal(tasks, up, prev, got)
			}
		}
		dead := slices.Clone(up) // whoever stays alive keeps its tasks, up to the share
		if len(dead) > 1 {
			dead[rnd.Intn(len(dead))] = false
		}
		for i, w := range asgn.Assign(tasks, dead, got) {
			if dead[got[i]] && w != got[i] {
				t.Fatal(up, dead, got)
			}
		}
	}
}

func TestNew(t *testing.T) { // P22.2
	for _, c := range []struct {
		workers int
		limit   int64
		want    api.Errno
	}{
		{1, 1, api.OK}, {16, 1, api.OK}, {3, math.MaxInt64, api.OK},
		{0, 1, api.ErrArg}, {-1, 1, api.ErrArg}, {17, 1, api.ErrArg}, {math.MaxInt64, 1, api.ErrArg}, {math.MinInt64, 1, api.ErrArg},
		{3, 0, api.ErrArg}, {3, -1, api.ErrArg}, {3, math.MinInt64, api.ErrArg},
	} {
		b, err := asgn.New(c.workers, c.limit)
		if err != c.want || (b != nil) != (err == api.OK) {
			t.Errorf("%v: %d", c, err)
		}
		if b == nil {
			continue
		}
		for _, now := range []int64{math.MinInt64, -1, 0, 1, math.MaxInt64} { // none has beaten
			if got := b.Alive(now); len(got) != c.workers || slices.Contains(got, true) {
				t.Errorf("%v, %d: %v", c, now, got)
			}
		}
	}
}

func TestBeats(t *testing.T) { // P22.2
	b, _ := asgn.New(3, 10)
	for _, c := range []struct {
		w    int
		now  int64
		want api.Errno
	}{
		{-1, 5, api.ErrArg}, {3, 5, api.ErrArg}, {math.MaxInt64, 5, api.ErrArg}, {math.MinInt64, 5, api.ErrArg},
		{0, -1, api.ErrArg}, {0, math.MinInt64, api.ErrArg},
		{0, 20, api.OK}, {0, 15, api.OK}, {0, 20, api.OK}, {2, 0, api.OK},
	} {
		if err := b.Beat(c.w, c.now); err != c.want {
			t.Errorf("%v: %d", c, err)
		}
	}
	for now, want := range map[int64]string{
		math.MinInt64: "x-x", -1: "x-x", 0: "x-x", 9: "x-x", 10: "x--", 19: "x--", 20: "x--", 29: "x--", 30: "---", 31: "---", math.MaxInt64: "---",
	} {
		if got := b.Alive(now); !slices.Equal(got, alive(want)) {
			t.Errorf("%d: %v", now, got)
		}
	}
	b.Beat(0, 25) // a later beat counts, an earlier one does not
	b.Beat(0, 3)
	for now, want := range map[int64]bool{34: true, 35: false} {
		if got := b.Alive(now); got[0] != want {
			t.Error(now, got)
		}
	}
}

func TestBeatsDontOverflow(t *testing.T) { // P22.2, against numbers of any size
	numbers := []int64{math.MinInt64, math.MinInt64 + 1, -2, -1, 0, 1, 2, math.MaxInt64 - 1, math.MaxInt64}
	for _, limit := range numbers {
		for _, beat := range numbers {
			b, err := asgn.New(1, limit)
			if err != api.OK || b.Beat(0, beat) != api.OK {
				continue
			}
			for _, now := range numbers {
				want := big.NewInt(beat).Cmp(new(big.Int).Sub(big.NewInt(now), big.NewInt(limit))) > 0
				if got := b.Alive(now); !slices.Equal(got, []bool{want}) {
					t.Error(limit, beat, now, got)
				}
			}
		}
	}
}

func TestNilBeats(t *testing.T) { // P22.2
	for _, b := range []*asgn.Beats{nil, {}} {
		for _, w := range []int{-1, 0, 1} {
			if err := b.Beat(w, 5); err != api.ErrArg {
				t.Error(err)
			}
		}
		if got := b.Alive(5); len(got) != 0 {
			t.Error(got)
		}
	}
}

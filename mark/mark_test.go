package mark_test

import (
	"math"
	"math/rand"
	"slices"
	"testing"

	"tidemill/api"
	"tidemill/mark"
)

const most = api.MaxTime

func open(t *testing.T, inputs ...int) *mark.Marks {
	t.Helper()
	m, err := mark.New(inputs)
	if m == nil || err != api.OK {
		t.Fatal(inputs, err)
	}
	return m
}

// upTo are so many numbers from 0 on.
func upTo(n int) []int {
	var l []int
	for i := range n {
		l = append(l, i)
	}
	return l
}

func TestNew(t *testing.T) { // P19.1
	for _, l := range [][]int{nil, {}, upTo(25), upTo(1000), {-1}, {-1, 0}, {math.MinInt64}, {1, 1}, {2, 1}, {0, 5, 3}, {0, 3, 3, 4}} {
		if m, err := mark.New(l); m != nil || err != api.ErrArg {
			t.Errorf("%v: %d", l, err)
		}
	}
	for _, l := range [][]int{{0}, {7}, {2, 5}, upTo(24), {0, math.MaxInt64}} {
		m := open(t, l...)
		if !slices.Equal(m.Inputs(), l) || m.Mark() != -1 {
			t.Error(l, m.Inputs(), m.Mark())
		}
		for _, v := range append(l, -1, 100) {
			if m.Seen(v) != -1 {
				t.Error(l, v, m.Seen(v))
			}
		}
	}
}

func TestTheExample(t *testing.T) { // P19.1
	m := open(t, 2, 5)
	m.See(2, 9)
	if m.Mark() != -1 {
		t.Error(m.Mark())
	}
	m.See(5, 4)
	if m.Mark() != 4 {
		t.Error(m.Mark())
	}
}

func TestSee(t *testing.T) { // P19.1
	m := open(t, 2, 5)
	for k, c := range []struct {
		v         int
		time      int64
		greater   bool
		err       api.Errno
		two, five int64
		mark      int64
	}{
		{3, 4, false, api.ErrNone, -1, -1, -1},
		{-1, 4, false, api.ErrNone, -1, -1, -1},
		{3, -1, false, api.ErrNone, -1, -1, -1}, // ahead of ErrRange
		{2, -1, false, api.ErrRange, -1, -1, -1},
		{2, most + 1, false, api.ErrRange, -1, -1, -1},
		{2, math.MinInt64, false, api.ErrRange, -1, -1, -1},
		{2, math.MaxInt64, false, api.ErrRange, -1, -1, -1},
		{2, 0, true, api.OK, 0, -1, -1},
		{2, 0, false, api.OK, 0, -1, -1},
		{5, 7, true, api.OK, 0, 7, 0},
		{2, 9, true, api.OK, 9, 7, 7},
		{2, 8, false, api.OK, 9, 7, 7},
		{2, 9, false, api.OK, 9, 7, 7},
		{5, 10, true, api.OK, 9, 10, 9},
		{2, most + 1, false, api.ErrRange, 9, 10, 9},
		{2, most, true, api.OK, most, 10, 10},
		{5, most, true, api.OK, most, most, most},
	} {
		greater, err := m.See(c.v, c.time)
		if greater != c.greater || err != c.err || m.Seen(2) != c.two || m.Seen(5) != c.five || m.Mark() != c.mark {
			t.Errorf("%d: %v, %d, %d, %d, %d", k, greater, err, m.Seen(2), m.Seen(5), m.Mark())
		}
	}
	if m.Seen(3) != -1 || !slices.Equal(m.Inputs(), []int{2, 5}) {
		t.Error(m.Seen(3), m.Inputs())
	}
}

func TestNilMarks(t *testing.T) { // P19.1
	for _, m := range []*mark.Marks{nil, {}} {
		for _, time := range []int64{-1, 5} {
			if greater, err := m.See(0, time); greater || err != api.ErrNone {
				t.Error(greater, err)
			}
		}
		if m.Seen(0) != -1 || m.Mark() != -1 || len(m.Inputs()) != 0 {
			t.Error(m.Seen(0), m.Mark(), m.Inputs())
		}
	}
}

func TestNothingIsShared(t *testing.T) { // R3
	l := []int{2, 5}
	m := open(t, l...)
	l[0] = 3
	m.Inputs()[1] = 9
	if !slices.Equal(m.Inputs(), []int{2, 5}) {
		t.Error(m.Inputs())
	}
}

func TestTheMarkRises(t *testing.T) { // P19.2
	rnd := rand.New(rand.NewSource(1))
	for range 500 {
		l := upTo(1 + rnd.Intn(5))
		a, b := open(t, l...), open(t, l...)
		greatest := slices.Repeat([]int64{-1}, len(l))
		type sight struct {
			v    int
			time int64
		}
		var all []sight
		for range 30 {
			x := sight{rnd.Intn(len(l)), rnd.Int63n(40)}
			all = append(all, x)
			before := a.Mark()
			greater, err := a.See(x.v, x.time)
			if greater != (x.time > greatest[x.v]) || err != api.OK {
				t.Fatal(x, greater, err)
			}
			greatest[x.v] = max(greatest[x.v], x.time)
			if a.Seen(x.v) != greatest[x.v] || a.Mark() != slices.Min(greatest) || a.Mark() < before {
				t.Fatal(greatest, a.Mark(), before)
			}
		}
		for _, i := range rnd.Perm(len(all)) { // in another order
			b.See(all[i].v, all[i].time)
		}
		for _, v := range l {
			if a.Seen(v) != b.Seen(v) || a.Mark() != b.Mark() {
				t.Fatal(all)
			}
		}
	}
}

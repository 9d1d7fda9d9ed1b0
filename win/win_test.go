package win_test

import (
	"cmp"
	"math"
	"math/rand"
	"slices"
	"testing"

	"tidemill/api"
	"tidemill/win"
)

const most = api.MaxTime

func open(t *testing.T, room int, size int64) *win.Store {
	t.Helper()
	s, err := win.New(room, size)
	if s == nil || err != api.OK {
		t.Fatal(room, size, err)
	}
	return s
}

func set(key, from, to, val int64) api.Change {
	return api.Change{Key: key, From: from, To: to, Val: val}
}
func gone(key, from, to int64) api.Change {
	return api.Change{Key: key, From: from, To: to, Del: true}
}

// has checks the contents of a store.
func has(t *testing.T, s *win.Store, want ...api.Change) {
	t.Helper()
	if got := s.List(); !slices.Equal(got, want) || s.Len() != len(want) {
		t.Errorf("%v, %d; want %v", got, s.Len(), want)
	}
}

func TestNew(t *testing.T) { // P13.1
	for _, c := range []struct {
		room int
		size int64
		want api.Errno
	}{
		{1, 1, api.OK}, {1024, 1 << 20, api.OK}, {7, 10, api.OK},
		{0, 10, api.ErrArg}, {-1, 10, api.ErrArg}, {1025, 10, api.ErrArg}, {math.MaxInt64, 10, api.ErrArg}, {math.MinInt64, 10, api.ErrArg},
		{7, 0, api.ErrArg}, {7, -1, api.ErrArg}, {7, 1<<20 + 1, api.ErrArg}, {7, math.MaxInt64, api.ErrArg}, {7, math.MinInt64, api.ErrArg},
	} {
		s, err := win.New(c.room, c.size)
		if err != c.want || (s != nil) != (err == api.OK) {
			t.Errorf("%v: %d", c, err)
		}
		if s != nil {
			has(t, s)
		}
	}
}

func TestStart(t *testing.T) { // P13.1
	for _, size := range []int64{1, 2, 3, 10, 1<<20 - 1, 1 << 20} {
		s := open(t, 1, size)
		for _, time := range []int64{0, 1, 2, 3, 9, 10, 11, 29, 30, 1<<20 - 1, 1 << 20, most - 1, most} {
			from := s.Start(time)
			if from < 0 || from > time || from+size <= time || from%size != 0 {
				t.Errorf("size %d, time %d: %d", size, time, from)
			}
		}
		for _, time := range []int64{math.MinInt64, -size, -1, most + 1, math.MaxInt64} {
			if from := s.Start(time); from != -1 {
				t.Errorf("size %d, time %d: %d", size, time, from)
			}
		}
	}
}

func TestTheExample(t *testing.T) { // P13.1, P13.2
	s := open(t, 3, 10)
	if c, err := s.Put(1, 25, 7); c != set(1, 20, 30, 7) || err != api.OK {
		t.Error(c, err)
	}
	if val, ok := s.Get(1, 29); val != 7 || !ok {
		t.Error(val, ok)
	}
	if l := s.Expire(29); len(l) != 0 {
		t.Error(l)
	}
	if l := s.Expire(30); !slices.Equal(l, []api.Change{gone(1, 20, 30)}) {
		t.Error(l)
	}
	has(t, s)
}

func TestPutAndGet(t *testing.T) { // P13.1
	s := open(t, 3, 10)
	for k, c := range []struct {
		key, time, val int64
		change         api.Change
		err            api.Errno
	}{
		{1, 25, 7, set(1, 20, 30, 7), api.OK},
		{1, -1, 7, api.Change{}, api.ErrRange},
		{1, most + 1, 7, api.Change{}, api.ErrRange},
		{1, 20, 8, set(1, 20, 30, 8), api.OK},
		{1, 30, 9, set(1, 30, 40, 9), api.OK},
		{-5, most, 0, set(-5, most/10*10, most/10*10+10, 0), api.OK},
		{2, 25, 7, api.Change{}, api.ErrFull},
		{1, 5, 7, api.Change{}, api.ErrFull},
		{2, -1, 7, api.Change{}, api.ErrRange}, // ahead of ErrFull
		{1, 39, -3, set(1, 30, 40, -3), api.OK},
	} {
		if got, err := s.Put(c.key, c.time, c.val); got != c.change || err != c.err {
			t.Errorf("%d: %v, %d", k, got, err)
		}
	}
	has(t, s, set(1, 20, 30, 8), set(1, 30, 40, -3), set(-5, most/10*10, most/10*10+10, 0))
	for _, c := range []struct {
		key, time, val int64
		ok             bool
	}{
		{1, 20, 8, true}, {1, 29, 8, true}, {1, 30, -3, true}, {1, 40, 0, false}, {1, 19, 0, false}, {2, 25, 0, false},
		{-5, most - 1, 0, true}, {-5, most + 1, 0, false}, {1, -1, 0, false}, {1, math.MinInt64, 0, false}, {1, math.MaxInt64, 0, false},
	} {
		if val, ok := s.Get(c.key, c.time); val != c.val || ok != c.ok {
			t.Errorf("%v: %d, %v", c, val, ok)
		}
	}
}

func TestExpire(t *testing.T) { // P13.2
	fill := func() *win.Store {
		s := open(t, 9, 10)
		for _, c := range [][2]int64{{5, 12}, {-5, 15}, {3, 0}, {9, 5}, {0, 33}} {
			s.Put(c[0], c[1], 1)
		}
		return s
	}
	all := []api.Change{gone(3, 0, 10), gone(9, 0, 10), gone(-5, 10, 20), gone(5, 10, 20), gone(0, 30, 40)}
	for before, n := range map[int64]int{math.MinInt64: 0, -1: 0, 0: 0, 9: 0, 10: 2, 11: 2, 19: 2, 20: 4, 39: 4, 40: 5, math.MaxInt64: 5} {
		s := fill()
		if l := s.Expire(before); !slices.Equal(l, all[:n]) || s.Len() != 5-n {
			t.Errorf("Expire(%d): %v", before, l)
		}
		if l := s.Expire(before); len(l) != 0 {
			t.Errorf("Expire(%d) again: %v", before, l)
		}
	}
}

func TestDo(t *testing.T) { // P13.2
	s := open(t, 2, 10)
	last := int64(most / 10 * 10)
	one := []api.Change{set(1, 20, 30, 5)}
	for k, c := range []struct {
		c    api.Change
		want api.Errno
		list []api.Change
	}{
		{gone(1, 20, 30), api.ErrNone, nil},
		{set(1, 20, 30, 5), api.OK, one},
		{set(1, 21, 30, 5), api.ErrForm, one},
		{set(1, 20, 31, 5), api.ErrForm, one},
		{set(1, 20, 20, 5), api.ErrForm, one},
		{set(1, 20, 40, 5), api.ErrForm, one},
		{set(1, 19, 29, 5), api.ErrForm, one},
		{set(1, -1, 9, 5), api.ErrForm, one},
		{set(1, -10, 0, 5), api.ErrForm, one},
		{set(1, last+10, last+20, 5), api.ErrForm, one},
		{set(1, math.MaxInt64/10*10, math.MinInt64, 5), api.ErrForm, one},
		{set(1, math.MinInt64, math.MinInt64+10, 5), api.ErrForm, one},
		{api.Change{Key: 1, From: 20, To: 30, Val: 5, Del: true}, api.ErrForm, one},
		{api.Change{Key: 2, From: 20, To: 30, Val: 5, Del: true}, api.ErrForm, one}, // ahead of ErrNone
		{gone(1, 25, 35), api.ErrForm, one},
		{gone(1, 20, 31), api.ErrForm, one},
		{gone(1, -10, 0), api.ErrForm, one},
		{gone(1, -1, 9), api.ErrForm, one},
		{gone(1, 30, 40), api.ErrNone, one},
		{gone(2, 20, 30), api.ErrNone, one},
		{set(-1, last, last+10, 0), api.OK, []api.Change{one[0], set(-1, last, last+10, 0)}},
		{set(2, 20, 30, 1), api.ErrFull, []api.Change{one[0], set(-1, last, last+10, 0)}},
		{set(2, 21, 30, 1), api.ErrForm, []api.Change{one[0], set(-1, last, last+10, 0)}}, // ahead of ErrFull
		{gone(-1, last, last+10), api.OK, one},
		{set(0, 0, 10, 4), api.OK, []api.Change{set(0, 0, 10, 4), one[0]}},
		{set(1, 20, 30, -6), api.OK, []api.Change{set(0, 0, 10, 4), set(1, 20, 30, -6)}},
		{gone(1, 20, 30), api.OK, []api.Change{set(0, 0, 10, 4)}},
	} {
		if err := s.Do(c.c); err != c.want {
			t.Errorf("%d: %d, want %d", k, err, c.want)
		}
		has(t, s, c.list...)
	}
}

func TestNilStore(t *testing.T) { // P13.2
	for _, s := range []*win.Store{nil, {}} {
		if from := s.Start(5); from != -1 {
			t.Error(from)
		}
		if val, ok := s.Get(1, 2); val != 0 || ok {
			t.Error(val, ok)
		}
		for _, time := range []int64{-1, 5} {
			if c, err := s.Put(1, time, 2); c != (api.Change{}) || err != api.ErrFull {
				t.Error(c, err)
			}
		}
		for _, c := range []api.Change{set(1, 0, 10, 1), set(1, 3, 2, 1), {Key: 1, Val: 3, Del: true}, gone(1, 0, 10)} {
			want := api.ErrFull
			if c.Del {
				want = api.ErrNone
			}
			if err := s.Do(c); err != want {
				t.Error(c, err)
			}
		}
		if l := s.Expire(math.MaxInt64); len(l) != 0 {
			t.Error(l)
		}
		has(t, s)
	}
}

// byWindow orders as the document says.
func byWindow(a, b api.Change) int {
	return cmp.Or(cmp.Compare(a.From, b.From), cmp.Compare(a.Key, b.Key))
}

func TestChangesLeadToTheSameStore(t *testing.T) { // P13.3, against a plain list
	rnd := rand.New(rand.NewSource(1))
	for range 300 {
		room, size := 1+rnd.Intn(8), 1+rnd.Int63n(6)
		s, other := open(t, room, size), open(t, room, size)
		var list []api.Change // of the values that there are
		for range 60 {
			var done []api.Change
			if rnd.Intn(5) > 0 {
				key, time, val := rnd.Int63n(4)-2, rnd.Int63n(20), rnd.Int63n(5)
				from := time / size * size
				at := slices.IndexFunc(list, func(c api.Change) bool { return c.Key == key && c.From <= time && time < c.To })
				c, err := s.Put(key, time, val)
				want := api.OK
				if at < 0 && len(list) == room {
					want = api.ErrFull
				}
				if err != want || err == api.OK && c != set(key, from, from+size, val) {
					t.Fatal(c, err, want)
				}
				if err == api.OK {
					list = append(slices.DeleteFunc(list, func(x api.Change) bool { return x.Key == c.Key && x.From == c.From }), c)
					done = []api.Change{c}
				}
			} else {
				before := rnd.Int63n(25) - 2
				done = s.Expire(before)
				var want []api.Change
				list = slices.DeleteFunc(list, func(c api.Change) bool {
					if c.To <= before {
						want = append(want, gone(c.Key, c.From, c.To))
					}
					return c.To <= before
				})
				slices.SortFunc(want, byWindow)
				if !slices.Equal(done, want) {
					t.Fatal(done, want)
				}
			}
			for _, c := range done {
				if err := other.Do(c); err != api.OK {
					t.Fatal(c, err)
				}
			}
			slices.SortFunc(list, byWindow)
			if !slices.Equal(s.List(), list) || !slices.Equal(other.List(), list) || s.Len() != len(list) {
				t.Fatal(s.List(), other.List(), list)
			}
			for _, c := range list { // all times of a window share one value
				for time := c.From; time < c.To; time++ {
					if val, ok := s.Get(c.Key, time); val != c.Val || !ok {
						t.Fatal(c, time, val, ok)
					}
				}
			}
		}
	}
}

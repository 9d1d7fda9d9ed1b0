package sess_test

import (
	"cmp"
	"math"
	"math/rand"
	"slices"
	"testing"

	"tidemill/api"
	"tidemill/sess"
)

const most = api.MaxTime

func open(t *testing.T, room int, gap int64) *sess.Store {
	t.Helper()
	s, err := sess.New(room, gap)
	if s == nil || err != api.OK {
		t.Fatal(room, gap, err)
	}
	return s
}

func set(key, from, to, val int64) api.Change {
	return api.Change{Key: key, From: from, To: to, Val: val}
}
func gone(key, from, to int64) api.Change {
	return api.Change{Key: key, From: from, To: to, Del: true}
}

// has checks the contents of a store.
func has(t *testing.T, s *sess.Store, want ...api.Change) {
	t.Helper()
	if got := s.List(); !slices.Equal(got, want) || s.Len() != len(want) {
		t.Errorf("%v, %d; want %v", got, s.Len(), want)
	}
}

// put puts a value and checks what is returned.
func put(t *testing.T, s *sess.Store, key, time, val int64, want ...api.Change) {
	t.Helper()
	if got, err := s.Put(key, time, val); !slices.Equal(got, want) || err != api.OK {
		t.Errorf("Put(%d, %d, %d): %v, %d; want %v", key, time, val, got, err, want)
	}
}

func TestNew(t *testing.T) { // P14.1
	for _, c := range []struct {
		room int
		gap  int64
		want api.Errno
	}{
		{1, 1, api.OK}, {1024, 1 << 20, api.OK}, {7, 10, api.OK},
		{0, 10, api.ErrArg}, {-1, 10, api.ErrArg}, {1025, 10, api.ErrArg}, {math.MaxInt64, 10, api.ErrArg}, {math.MinInt64, 10, api.ErrArg},
		{7, 0, api.ErrArg}, {7, -1, api.ErrArg}, {7, 1<<20 + 1, api.ErrArg}, {7, math.MaxInt64, api.ErrArg}, {7, math.MinInt64, api.ErrArg},
	} {
		s, err := sess.New(c.room, c.gap)
		if err != c.want || (s != nil) != (err == api.OK) {
			t.Errorf("%v: %d", c, err)
		}
		if s != nil {
			has(t, s)
		}
	}
}

func TestTheExample(t *testing.T) { // P14.1
	s := open(t, 9, 5)
	put(t, s, 1, 10, 7, set(1, 10, 10, 7))
	put(t, s, 1, 20, 8, set(1, 20, 20, 8))
	put(t, s, 1, 15, 9, gone(1, 10, 10), gone(1, 20, 20), set(1, 10, 20, 9))
	has(t, s, set(1, 10, 20, 9))
}

func TestPut(t *testing.T) { // P14.1
	s := open(t, 9, 5)
	put(t, s, 1, 10, 1, set(1, 10, 10, 1))
	put(t, s, 1, 16, 2, set(1, 16, 16, 2)) // more than the gap apart
	put(t, s, 1, 4, 3, set(1, 4, 4, 3))    // likewise
	put(t, s, 2, 12, 4, set(2, 12, 12, 4)) // another key
	has(t, s, set(1, 4, 4, 3), set(1, 10, 10, 1), set(1, 16, 16, 2), set(2, 12, 12, 4))
	put(t, s, 1, 10, 5, set(1, 10, 10, 5)) // the same session: it isn't deleted
	put(t, s, 1, 21, 6, gone(1, 16, 16), set(1, 16, 21, 6))
	put(t, s, 1, 18, 7, set(1, 16, 21, 7)) // within it
	put(t, s, 1, 11, 8, gone(1, 10, 10), gone(1, 16, 21), set(1, 10, 21, 8))
	put(t, s, 1, 9, 9, gone(1, 4, 4), gone(1, 10, 21), set(1, 4, 21, 9))
	put(t, s, 1, 26, 10, gone(1, 4, 21), set(1, 4, 26, 10))
	put(t, s, 1, 32, 11, set(1, 32, 32, 11))
	put(t, s, 1, 0, 12, gone(1, 4, 26), set(1, 0, 26, 12))
	put(t, s, 3, most, 13, set(3, most, most, 13))
	put(t, s, 3, most-5, 14, gone(3, most, most), set(3, most-5, most, 14))
	has(t, s, set(1, 0, 26, 12), set(1, 32, 32, 11), set(2, 12, 12, 4), set(3, most-5, most, 14))
}

func TestPutErrors(t *testing.T) { // P14.1
	s := open(t, 2, 5)
	put(t, s, 1, 10, 1, set(1, 10, 10, 1))
	put(t, s, 1, 20, 2, set(1, 20, 20, 2))
	for _, c := range []struct {
		key, time int64
		want      api.Errno
	}{
		{1, -1, api.ErrRange}, {1, most + 1, api.ErrRange}, {1, math.MinInt64, api.ErrRange}, {1, math.MaxInt64, api.ErrRange}, // ahead of ErrFull
		{1, 4, api.ErrFull}, {1, 26, api.ErrFull}, {2, 10, api.ErrFull}, {2, 0, api.ErrFull},
	} {
		if l, err := s.Put(c.key, c.time, 9); l != nil || err != c.want {
			t.Errorf("%v: %v, %d", c, l, err)
		}
	}
	has(t, s, set(1, 10, 10, 1), set(1, 20, 20, 2))
	put(t, s, 1, 25, 3, gone(1, 20, 20), set(1, 20, 25, 3)) // what is touched needs no room
	put(t, s, 1, 15, 4, gone(1, 10, 10), gone(1, 20, 25), set(1, 10, 25, 4))
	put(t, s, 2, 10, 5, set(2, 10, 10, 5))
	has(t, s, set(1, 10, 25, 4), set(2, 10, 10, 5))
}

func TestFind(t *testing.T) { // P14.1
	s := open(t, 9, 5)
	for _, c := range []api.Change{set(1, 10, 12, 1), set(1, 10, 11, 2), set(1, 17, 17, 3), set(1, 8, 30, 4), set(2, 11, 11, 5), set(-1, most, most, 6)} {
		s.Do(c)
	}
	for _, c := range []struct {
		key, time int64
		want      []api.Change
	}{
		{1, 2, nil},
		{1, 3, []api.Change{set(1, 8, 30, 4)}},
		{1, 4, []api.Change{set(1, 8, 30, 4)}},
		{1, 5, []api.Change{set(1, 8, 30, 4), set(1, 10, 11, 2), set(1, 10, 12, 1)}},
		{1, 12, []api.Change{set(1, 8, 30, 4), set(1, 10, 11, 2), set(1, 10, 12, 1), set(1, 17, 17, 3)}},
		{1, 16, []api.Change{set(1, 8, 30, 4), set(1, 10, 11, 2), set(1, 10, 12, 1), set(1, 17, 17, 3)}},
		{1, 17, []api.Change{set(1, 8, 30, 4), set(1, 10, 12, 1), set(1, 17, 17, 3)}},
		{1, 18, []api.Change{set(1, 8, 30, 4), set(1, 17, 17, 3)}},
		{1, 35, []api.Change{set(1, 8, 30, 4)}},
		{1, 36, nil},
		{2, 16, []api.Change{set(2, 11, 11, 5)}},
		{3, 11, nil},
		{-1, most - 5, []api.Change{set(-1, most, most, 6)}},
		{-1, most, []api.Change{set(-1, most, most, 6)}},
		{-1, most + 1, nil}, // it would touch, but it isn't valid
		{1, -1, nil}, {1, math.MinInt64, nil}, {1, math.MaxInt64, nil},
	} {
		if got := s.Find(c.key, c.time); !slices.Equal(got, c.want) {
			t.Errorf("Find(%d, %d): %v", c.key, c.time, got)
		}
	}
	low := open(t, 9, 5)
	low.Put(1, 3, 1)
	if got := low.Find(1, -1); len(got) != 0 {
		t.Error(got)
	}
	// Put removes all that it touches, also sessions that overlap
	put(t, s, 1, 5, 9, gone(1, 8, 30), gone(1, 10, 11), gone(1, 10, 12), set(1, 5, 30, 9))
}

func TestPutOverOverlaps(t *testing.T) { // P14.1: ordered by From and then by To, except for that of the new session
	s := open(t, 9, 5)
	for _, c := range []api.Change{set(1, 8, 30, 4), set(1, 10, 12, 1), set(1, 10, 11, 2)} {
		s.Do(c)
	}
	put(t, s, 1, 11, 9, gone(1, 10, 11), gone(1, 10, 12), set(1, 8, 30, 9))
	has(t, s, set(1, 8, 30, 9))
}

func TestExpire(t *testing.T) { // P14.2
	fill := func() *sess.Store {
		s := open(t, 9, 5)
		for _, c := range []api.Change{set(5, 0, 10, 1), set(-5, 3, 15, 1), set(-5, 3, 10, 1), set(-5, 1, 10, 1), set(9, 0, 0, 1), set(0, 33, 40, 1)} {
			s.Do(c)
		}
		return s
	}
	for before, want := range map[int64][]api.Change{
		math.MinInt64: nil, -1: nil, 0: nil, 4: nil,
		5:  {gone(9, 0, 0)},
		14: {gone(9, 0, 0)},
		15: {gone(-5, 1, 10), gone(-5, 3, 10), gone(5, 0, 10), gone(9, 0, 0)},
		20: {gone(-5, 1, 10), gone(-5, 3, 10), gone(-5, 3, 15), gone(5, 0, 10), gone(9, 0, 0)},
		44: {gone(-5, 1, 10), gone(-5, 3, 10), gone(-5, 3, 15), gone(5, 0, 10), gone(9, 0, 0)},
		45: {gone(-5, 1, 10), gone(-5, 3, 10), gone(-5, 3, 15), gone(0, 33, 40), gone(5, 0, 10), gone(9, 0, 0)},

		math.MaxInt64: {gone(-5, 1, 10), gone(-5, 3, 10), gone(-5, 3, 15), gone(0, 33, 40), gone(5, 0, 10), gone(9, 0, 0)},
	} {
		s := fill()
		if l := s.Expire(before); !slices.Equal(l, want) || s.Len() != 6-len(want) {
			t.Errorf("Expire(%d): %v", before, l)
		}
		if l := s.Expire(before); len(l) != 0 {
			t.Errorf("Expire(%d) again: %v", before, l)
		}
		for _, c := range want {
			if err := s.Do(c); err != api.ErrNone {
				t.Errorf("Expire(%d) left %v", before, c)
			}
		}
	}
}

func TestDo(t *testing.T) { // P14.2
	s := open(t, 3, 5)
	var list []api.Change
	for k, c := range []struct {
		c    api.Change
		want api.Errno
		list []api.Change // nil: as before
	}{
		{gone(1, 2, 3), api.ErrNone, nil},
		{set(1, 2, 3, 5), api.OK, []api.Change{set(1, 2, 3, 5)}},
		{set(1, 2, 3, -6), api.OK, []api.Change{set(1, 2, 3, -6)}},
		{set(1, 3, 2, 5), api.ErrForm, nil},
		{set(1, -1, 3, 5), api.ErrForm, nil},
		{set(1, -2, -1, 5), api.ErrForm, nil},
		{set(1, 2, most+1, 5), api.ErrForm, nil},
		{set(1, most+1, most+1, 5), api.ErrForm, nil},
		{set(1, math.MinInt64, math.MaxInt64, 5), api.ErrForm, nil},
		{gone(1, 3, 2), api.ErrForm, nil},
		{gone(1, -1, 3), api.ErrForm, nil},
		{api.Change{Key: 1, From: 2, To: 3, Val: 1, Del: true}, api.ErrForm, nil},
		{api.Change{Key: 9, From: 2, To: 3, Val: 1, Del: true}, api.ErrForm, nil}, // ahead of ErrNone
		{gone(2, 2, 3), api.ErrNone, nil},
		{gone(1, 2, 4), api.ErrNone, nil},
		{gone(1, 1, 3), api.ErrNone, nil},
		{set(1, 2, 4, 7), api.OK, []api.Change{set(1, 2, 3, -6), set(1, 2, 4, 7)}}, // in addition, touching or not
		{set(1, 0, most, 8), api.OK, []api.Change{set(1, 0, most, 8), set(1, 2, 3, -6), set(1, 2, 4, 7)}},
		{set(1, 2, 5, 9), api.ErrFull, nil},
		{set(2, 2, 3, 9), api.ErrFull, nil},
		{set(2, 3, 2, 9), api.ErrForm, nil}, // ahead of ErrFull
		{set(1, 2, 3, 0), api.OK, []api.Change{set(1, 0, most, 8), set(1, 2, 3, 0), set(1, 2, 4, 7)}},
		{gone(1, 2, 3), api.OK, []api.Change{set(1, 0, most, 8), set(1, 2, 4, 7)}},
		{gone(1, 2, 3), api.ErrNone, nil},
		{set(0, 7, 7, 1), api.OK, []api.Change{set(0, 7, 7, 1), set(1, 0, most, 8), set(1, 2, 4, 7)}},
	} {
		if err := s.Do(c.c); err != c.want {
			t.Errorf("%d: %d, want %d", k, err, c.want)
		}
		if c.list != nil {
			list = c.list
		}
		has(t, s, list...)
	}
}

func TestNilStore(t *testing.T) { // P14.2
	var s *sess.Store
	for _, time := range []int64{-1, 5} {
		if l, err := s.Put(1, time, 2); l != nil || err != api.ErrFull {
			t.Error(l, err)
		}
	}
	for _, c := range []api.Change{set(1, 0, 10, 1), set(1, 3, 2, 1), {Key: 1, Val: 3, Del: true}, gone(1, 0, 10)} {
		want := api.ErrFull
		if c.Del {
			want = api.ErrNone
		}
		if err := s.Do(c); err != want {
			t.Error(c, err)
		}
	}
	for _, s := range []*sess.Store{nil, {}} {
		if l := s.Find(1, 5); len(l) != 0 {
			t.Error(l)
		}
		if l, err := s.Put(1, 5, 2); l != nil || err != api.ErrFull {
			t.Error(l, err)
		}
		if l := s.Expire(math.MaxInt64); len(l) != 0 {
			t.Error(l)
		}
		has(t, s)
	}
}

// byKey orders as the document says.
func byKey(a, b api.Change) int {
	return cmp.Or(cmp.Compare(a.Key, b.Key), cmp.Compare(a.From, b.From), cmp.Compare(a.To, b.To))
}

func TestChangesLeadToTheSameStore(t *testing.T) { // P14.3, against a plain list
	rnd := rand.New(rand.NewSource(1))
	for range 400 {
		room, gap := 1+rnd.Intn(8), 1+rnd.Int63n(4)
		s, other := open(t, room, gap), open(t, room, gap)
		var list []api.Change // of the sessions that there are
		for range 60 {
			var done, want, rest []api.Change
			if rnd.Intn(6) > 0 {
				key, time, val := rnd.Int63n(3)-1, rnd.Int63n(40), rnd.Int63n(5)
				all := set(key, time, time, val)
				var touched []api.Change
				for _, c := range list {
					if c.Key == key && c.From-gap <= time && time <= c.To+gap {
						touched = append(touched, c)
						all.From, all.To = min(all.From, c.From), max(all.To, c.To)
					} else {
						rest = append(rest, c)
					}
				}
				got, err := s.Put(key, time, val)
				if full := len(touched) == 0 && len(list) == room; full != (err == api.ErrFull) || !full && err != api.OK {
					t.Fatal(got, err)
				}
				if err != api.OK {
					continue
				}
				for _, c := range touched {
					if c.From != all.From || c.To != all.To {
						want = append(want, gone(c.Key, c.From, c.To))
					}
				}
				slices.SortFunc(want, byKey)
				done, want = got, append(want, all)
				rest = append(rest, all)
			} else {
				before := rnd.Int63n(50) - 2
				done = s.Expire(before)
				for _, c := range list {
					if c.To+gap <= before {
						want = append(want, gone(c.Key, c.From, c.To))
					} else {
						rest = append(rest, c)
					}
				}
			}
			list = rest
			slices.SortFunc(list, byKey)
			if !slices.Equal(done, want) {
				t.Fatal(done, want)
			}
			for _, c := range done {
				if err := other.Do(c); err != api.OK {
					t.Fatal(c, err)
				}
			}
			if !slices.Equal(s.List(), list) || !slices.Equal(other.List(), list) || s.Len() != len(list) {
				t.Fatal(s.List(), other.List(), list)
			}
			for i, c := range list { // with Put alone they are more than the gap apart
				if i > 0 && list[i-1].Key == c.Key && c.From-list[i-1].To <= gap {
					t.Fatal(list)
				}
			}
		}
	}
}

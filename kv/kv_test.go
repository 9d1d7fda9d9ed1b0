package kv_test

import (
	"maps"
	"math"
	"math/rand"
	"slices"
	"testing"

	"tidemill/api"
	"tidemill/kv"
)

func open(t *testing.T, room int) *kv.Store {
	t.Helper()
	s, err := kv.New(room)
	if s == nil || err != api.OK {
		t.Fatal(room, err)
	}
	return s
}

func set(key, val int64) api.Change { return api.Change{Key: key, Val: val} }
func gone(key int64) api.Change     { return api.Change{Key: key, Del: true} }

// has checks the contents of a store.
func has(t *testing.T, s *kv.Store, want ...api.Change) {
	t.Helper()
	if got := s.List(); !slices.Equal(got, want) || s.Len() != len(want) {
		t.Errorf("%v, %d; want %v", got, s.Len(), want)
	}
	for _, c := range want {
		if val, ok := s.Get(c.Key); val != c.Val || !ok {
			t.Errorf("key %d: %d, %v", c.Key, val, ok)
		}
	}
}

func TestNew(t *testing.T) { // P12.1
	for _, room := range []int{math.MinInt64, -1, 0, 1025, math.MaxInt64} {
		if s, err := kv.New(room); s != nil || err != api.ErrArg {
			t.Errorf("room %d: %d", room, err)
		}
	}
	for _, room := range []int{1, 2, 1023, 1024} {
		s := open(t, room)
		has(t, s)
		for i := range room {
			if _, err := s.Put(int64(-i), 1); err != api.OK {
				t.Fatal(room, i, err)
			}
		}
		if c, err := s.Put(1, 1); c != (api.Change{}) || err != api.ErrFull || s.Len() != room {
			t.Error(room, c, err)
		}
	}
}

func TestPutGetDel(t *testing.T) { // P12.1
	s := open(t, 3)
	for _, c := range []api.Change{set(2, 7), set(1, 8), set(math.MinInt64, 0)} {
		if got, err := s.Put(c.Key, c.Val); got != c || err != api.OK {
			t.Error(got, err)
		}
	}
	has(t, s, set(math.MinInt64, 0), set(1, 8), set(2, 7))
	if c, err := s.Put(3, 1); c != (api.Change{}) || err != api.ErrFull {
		t.Error(c, err)
	}
	if val, ok := s.Get(3); val != 0 || ok {
		t.Error(val, ok)
	}
	if c, err := s.Put(2, -9); c != set(2, -9) || err != api.OK { // a full store sets values that are there
		t.Error(c, err)
	}
	if c, err := s.Del(5); c != (api.Change{}) || err != api.ErrNone {
		t.Error(c, err)
	}
	if c, err := s.Del(1); c != gone(1) || err != api.OK {
		t.Error(c, err)
	}
	if c, err := s.Del(1); c != (api.Change{}) || err != api.ErrNone {
		t.Error(c, err)
	}
	if val, ok := s.Get(1); val != 0 || ok {
		t.Error(val, ok)
	}
	has(t, s, set(math.MinInt64, 0), set(2, -9))
	if c, err := s.Put(math.MaxInt64, 4); c != set(math.MaxInt64, 4) || err != api.OK { // there is room again
		t.Error(c, err)
	}
	has(t, s, set(math.MinInt64, 0), set(2, -9), set(math.MaxInt64, 4))
}

func TestTheExample(t *testing.T) { // P12.2
	s := open(t, 9)
	s.Put(2, 7)
	s.Put(1, 8)
	s.Del(2)
	has(t, s, set(1, 8))
}

func TestDo(t *testing.T) { // P12.2
	s := open(t, 1)
	for k, c := range []struct {
		c    api.Change
		want api.Errno
		list []api.Change
	}{
		{gone(1), api.ErrNone, nil},
		{set(1, 5), api.OK, []api.Change{set(1, 5)}},
		{set(2, 5), api.ErrFull, []api.Change{set(1, 5)}},
		{gone(2), api.ErrNone, []api.Change{set(1, 5)}},
		{set(1, 0), api.OK, []api.Change{set(1, 0)}},
		{api.Change{Key: 1, Val: 7, From: 1}, api.ErrForm, []api.Change{set(1, 0)}},
		{api.Change{Key: 1, Val: 7, To: -1}, api.ErrForm, []api.Change{set(1, 0)}},
		{api.Change{Key: 1, From: 1, To: -1, Del: true}, api.ErrForm, []api.Change{set(1, 0)}},
		{api.Change{Key: 1, To: math.MinInt64, Del: true}, api.ErrForm, []api.Change{set(1, 0)}},
		{api.Change{Key: 1, Val: 1, Del: true}, api.ErrForm, []api.Change{set(1, 0)}},
		{api.Change{Key: 2, Val: 1, Del: true}, api.ErrForm, []api.Change{set(1, 0)}}, // ahead of ErrNone
		{api.Change{Key: 2, Val: 1, From: 9}, api.ErrForm, []api.Change{set(1, 0)}},   // ahead of ErrFull
		{gone(1), api.OK, nil},
		{set(2, -5), api.OK, []api.Change{set(2, -5)}},
	} {
		if err := s.Do(c.c); err != c.want {
			t.Errorf("%d: %d, want %d", k, err, c.want)
		}
		has(t, s, c.list...)
	}
}

func TestNilStore(t *testing.T) { // P12.2
	for _, s := range []*kv.Store{nil, {}} {
		if c, err := s.Put(1, 2); c != (api.Change{}) || err != api.ErrFull {
			t.Error(c, err)
		}
		if c, err := s.Del(1); c != (api.Change{}) || err != api.ErrNone {
			t.Error(c, err)
		}
		for c, want := range map[api.Change]api.Errno{
			set(1, 2): api.ErrFull, gone(1): api.ErrNone,
			{From: 1}: api.ErrForm, {To: 1, Del: true}: api.ErrForm, {Val: 1, Del: true}: api.ErrForm,
		} {
			if err := s.Do(c); err != want {
				t.Error(c, err)
			}
		}
		if val, ok := s.Get(1); val != 0 || ok {
			t.Error(val, ok)
		}
		has(t, s)
	}
}

func TestChangesLeadToTheSameStore(t *testing.T) { // P12.3, against a map
	rnd := rand.New(rand.NewSource(1))
	for range 300 {
		room := 1 + rnd.Intn(8)
		s, other := open(t, room), open(t, room)
		m := map[int64]int64{}
		for range 60 {
			key, val := rnd.Int63n(12)-6, rnd.Int63n(5)
			_, there := m[key]
			var c api.Change
			var err api.Errno
			if rnd.Intn(3) > 0 {
				want := api.OK
				if !there && len(m) == room {
					want = api.ErrFull
				}
				if c, err = s.Put(key, val); err != want || err == api.OK && c != set(key, val) {
					t.Fatal(c, err, want)
				}
				if err == api.OK {
					m[key] = val
				}
			} else {
				if c, err = s.Del(key); (err == api.OK) != there || there && c != gone(key) {
					t.Fatal(c, err)
				}
				delete(m, key)
			}
			if err == api.OK {
				if err := other.Do(c); err != api.OK {
					t.Fatal(c, err)
				}
			}
			var want []api.Change
			for _, key := range slices.Sorted(maps.Keys(m)) {
				want = append(want, set(key, m[key]))
			}
			if !slices.Equal(s.List(), want) || !slices.Equal(other.List(), want) {
				t.Fatal(s.List(), other.List(), want)
			}
			if got, ok := s.Get(key); got != m[key] || ok != slices.Contains(slices.Collect(maps.Keys(m)), key) {
				t.Fatal(key, got, ok)
			}
		}
		again := open(t, room)
		for _, c := range s.List() {
			again.Do(c)
		}
		if !slices.Equal(again.List(), s.List()) {
			t.Fatal(again.List())
		}
	}
}

func TestListsAreNotShared(t *testing.T) { // R3
	s := open(t, 3)
	s.Put(1, 2)
	s.List()[0].Val = 9
	has(t, s, set(1, 2))
}

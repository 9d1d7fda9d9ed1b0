package agg_test

import (
	"math"
	"math/rand"
	"slices"
	"testing"

	"tidemill/agg"
	"tidemill/api"
)

const most = api.MaxTime

func con(n int64) api.Expr                 { return api.Expr{Op: api.OpConst, N: n} }
func op(op int, kids ...api.Expr) api.Expr { return api.Expr{Op: op, Kids: kids} }
func rec(key, val, time int64) api.Record  { return api.Record{Key: key, Val: val, Time: time} }
func vert(kind int, n int64, e api.Expr) api.Vertex {
	return api.Vertex{Kind: kind, N: n, E: e}
}

var (
	val  = op(api.OpVal)
	sum  = op(api.OpAdd, val, op(api.OpAcc))
	over = op(api.OpDiv, con(100), val)
)

func set(key, from, to, val int64) api.Change {
	return api.Change{Key: key, From: from, To: to, Val: val}
}
func gone(key, from, to int64) api.Change {
	return api.Change{Key: key, From: from, To: to, Del: true}
}

func open(t *testing.T, v api.Vertex) *agg.Store {
	t.Helper()
	s, err := agg.New(v)
	if s == nil || err != api.OK {
		t.Fatal(v, err)
	}
	return s
}

// apply applies a record and checks what is returned.
func apply(t *testing.T, s *agg.Store, r, want api.Record, changes ...api.Change) {
	t.Helper()
	if got, l, err := s.Apply(r); got != want || !slices.Equal(l, changes) || err != api.OK {
		t.Errorf("%v: %v, %v, %d; want %v, %v", r, got, l, err, want, changes)
	}
}

// refuse applies a record that has an error, and checks that nothing changes.
func refuse(t *testing.T, s *agg.Store, r api.Record, want api.Errno) {
	t.Helper()
	before := s.List()
	if got, l, err := s.Apply(r); got != (api.Record{}) || l != nil || err != want || !slices.Equal(s.List(), before) {
		t.Errorf("%v: %v, %v, %d; want %d", r, got, l, err, want)
	}
}

func TestNew(t *testing.T) { // P18.1
	for kind := -1; kind < 13; kind++ {
		for _, n := range []int64{math.MinInt64, -1, 0, 1, 1 << 20, 1<<20 + 1, math.MaxInt64} {
			for k, e := range []api.Expr{sum, {}, {Op: 17}, op(api.OpAdd, val)} {
				s, err := agg.New(vert(kind, n, e))
				spanned := kind == api.VertTumble || kind == api.VertSession
				ok := k == 0 && (kind == api.VertAgg || spanned && n >= 1 && n <= 1<<20)
				if ok != (err == api.OK) || ok != (s != nil) || !ok && err != api.ErrArg {
					t.Errorf("kind %d, N %d, E %v: %d", kind, n, e, err)
				}
				if ok && len(s.List()) != 0 {
					t.Errorf("kind %d: %v", kind, s.List())
				}
			}
		}
	}
}

func TestAgg(t *testing.T) { // P18.2
	s := open(t, vert(api.VertAgg, 0, sum))
	apply(t, s, rec(1, 5, 9), rec(1, 5, 9), set(1, 0, 0, 5))
	apply(t, s, rec(1, 6, 3), rec(1, 11, 3), set(1, 0, 0, 11))
	apply(t, s, rec(2, 1, most), rec(2, 1, most), set(2, 0, 0, 1))
	apply(t, s, rec(1, math.MaxInt64, 0), rec(1, math.MinInt64+10, 0), set(1, 0, 0, math.MinInt64+10))
	for _, time := range []int64{-1, most + 1, math.MinInt64, math.MaxInt64} {
		refuse(t, s, rec(1, 5, time), api.ErrRange)
	}
	if s.Value(1) != math.MinInt64+10 || s.Value(2) != 1 || s.Value(3) != 0 {
		t.Error(s.Value(1), s.Value(2), s.Value(3))
	}
	s = open(t, vert(api.VertAgg, -77, over))
	refuse(t, s, rec(1, 0, 5), api.ErrDiv)
	refuse(t, s, rec(1, 0, -5), api.ErrRange) // ahead of ErrDiv
	apply(t, s, rec(1, 7, 5), rec(1, 14, 5), set(1, 0, 0, 14))
	refuse(t, s, rec(1, 0, 5), api.ErrDiv)
}

func TestTumble(t *testing.T) { // P18.2
	s := open(t, vert(api.VertTumble, 10, sum))
	apply(t, s, rec(1, 5, 19), rec(1, 5, 10), set(1, 10, 20, 5))
	apply(t, s, rec(1, 6, 10), rec(1, 11, 10), set(1, 10, 20, 11))
	apply(t, s, rec(1, 7, 20), rec(1, 7, 20), set(1, 20, 30, 7)) // another window
	apply(t, s, rec(2, 8, 15), rec(2, 8, 10), set(2, 10, 20, 8)) // another key
	apply(t, s, rec(1, 1, most), rec(1, 1, most/10*10), set(1, most/10*10, most/10*10+10, 1))
	refuse(t, s, rec(1, 5, -1), api.ErrRange)
	refuse(t, s, rec(1, 5, most+1), api.ErrRange)
	if s.Value(1) != 0 {
		t.Error(s.Value(1))
	}
	s = open(t, vert(api.VertTumble, 10, over))
	refuse(t, s, rec(1, 0, 5), api.ErrDiv)
}

func TestSession(t *testing.T) { // P18.2
	s := open(t, vert(api.VertSession, 5, sum))
	apply(t, s, rec(1, 5, 10), rec(1, 5, 10), set(1, 10, 10, 5))
	apply(t, s, rec(1, 6, 20), rec(1, 6, 20), set(1, 20, 20, 6))
	apply(t, s, rec(2, 9, 15), rec(2, 9, 15), set(2, 15, 15, 9))
	apply(t, s, rec(1, 7, 15), rec(1, 18, 10), gone(1, 10, 10), gone(1, 20, 20), set(1, 10, 20, 18)) // the sum of both
	apply(t, s, rec(1, 1, 12), rec(1, 19, 10), set(1, 10, 20, 19))
	apply(t, s, rec(1, 1, 5), rec(1, 20, 5), gone(1, 10, 20), set(1, 5, 20, 20))
	refuse(t, s, rec(1, 5, -1), api.ErrRange)
	refuse(t, s, rec(1, 5, most+1), api.ErrRange)
	if s.Value(1) != 0 {
		t.Error(s.Value(1))
	}
	for _, c := range []api.Change{set(3, 0, 0, math.MaxInt64), set(3, 1, 1, math.MaxInt64), set(3, 2, 2, 3)} {
		s.Do(c)
	}
	apply(t, s, rec(3, 0, 1), rec(3, 1, 0), gone(3, 0, 0), gone(3, 1, 1), gone(3, 2, 2), set(3, 0, 2, 1)) // modulo 2^64
	s = open(t, vert(api.VertSession, 5, over))
	refuse(t, s, rec(1, 0, 5), api.ErrDiv)
}

func TestFullStores(t *testing.T) { // P18.1, P18.2
	for _, kind := range []int{api.VertAgg, api.VertTumble, api.VertSession} {
		s := open(t, vert(kind, 10, op(api.OpAdd, sum, op(api.OpDiv, con(0), val))))
		for key := range int64(1024) {
			if _, _, err := s.Apply(rec(key, 1, 5)); err != api.OK {
				t.Fatal(kind, key, err)
			}
		}
		refuse(t, s, rec(2000, 1, 5), api.ErrFull)
		refuse(t, s, rec(2000, 0, 5), api.ErrDiv) // ahead of ErrFull
		refuse(t, s, rec(2000, 0, -5), api.ErrRange)
		if r, _, err := s.Apply(rec(7, 1, 5)); r.Val != 2 || err != api.OK {
			t.Error(kind, r, err)
		}
		if err := s.Do(set(2000, 0, 0, 1)); kind == api.VertAgg && err != api.ErrFull {
			t.Error(kind, err)
		}
	}
}

func TestLate(t *testing.T) { // P18.3
	agg, tumble, session := open(t, vert(api.VertAgg, 0, sum)), open(t, vert(api.VertTumble, 10, sum)), open(t, vert(api.VertSession, 10, sum))
	for _, c := range []struct {
		time, mark      int64
		tumble, session bool
	}{
		{15, 19, false, false}, {15, 20, true, false}, {15, 24, true, false}, {15, 25, true, true}, {15, math.MaxInt64, true, true},
		{10, 19, false, false}, {10, 20, true, true}, {19, 19, false, false}, {19, 20, true, false}, {19, 28, true, false}, {19, 29, true, true},
		{0, 9, false, false}, {0, 10, true, true}, {0, -1, false, false}, {0, math.MinInt64, false, false},
		{-1, math.MaxInt64, false, false}, {most + 1, math.MaxInt64, false, false}, {math.MinInt64, 0, false, false}, {math.MaxInt64, 0, false, false},
		{most, most, false, false}, {most, math.MaxInt64, true, true},
	} {
		r := rec(1, 2, c.time)
		if agg.Late(r, c.mark) || tumble.Late(r, c.mark) != c.tumble || session.Late(r, c.mark) != c.session {
			t.Errorf("%v: %v, %v, %v", c, agg.Late(r, c.mark), tumble.Late(r, c.mark), session.Late(r, c.mark))
		}
	}
}

func TestExpire(t *testing.T) { // P18.3
	for _, c := range []struct {
		kind int
		at   map[int64]int // how many are left behind Expire
		gone api.Change
	}{
		{api.VertAgg, map[int64]int{-1: 1, 0: 1, math.MaxInt64: 1, math.MinInt64: 1}, api.Change{}},
		{api.VertTumble, map[int64]int{math.MinInt64: 1, math.MinInt64 + 5: 1, -1: 1, 0: 1, 20: 1, 29: 1, 30: 0, 31: 0, math.MaxInt64: 0}, gone(1, 10, 20)},
		{api.VertSession, map[int64]int{math.MinInt64: 1, -1: 1, 24: 1, 25: 0, math.MaxInt64: 0}, gone(1, 15, 15)},
	} {
		for mark, left := range c.at {
			s := open(t, vert(c.kind, 10, sum))
			s.Apply(rec(1, 2, 15))
			l := s.Expire(mark)
			if len(s.List()) != left || len(l) != 1-left || left == 0 && l[0] != c.gone {
				t.Errorf("kind %d, Expire(%d): %v, left %v", c.kind, mark, l, s.List())
			}
		}
	}
	s := open(t, vert(api.VertTumble, 10, sum))
	s.Apply(rec(2, 1, 5))
	s.Apply(rec(1, 1, 15))
	s.Apply(rec(1, 1, 5))
	if l := s.Expire(30); !slices.Equal(l, []api.Change{gone(1, 0, 10), gone(2, 0, 10), gone(1, 10, 20)}) {
		t.Error(l)
	}
}

func TestDoAndList(t *testing.T) { // P18.3
	for _, c := range []struct {
		kind int
		c    api.Change
		bad  api.Change
	}{
		{api.VertAgg, set(1, 0, 0, 2), set(1, 10, 20, 2)},
		{api.VertTumble, set(1, 10, 20, 2), set(1, 0, 0, 2)},
		{api.VertSession, set(1, 3, 14, 2), set(1, 4, 3, 2)},
	} {
		s := open(t, vert(c.kind, 10, sum))
		if err := s.Do(c.bad); err != api.ErrForm {
			t.Error(c.kind, err)
		}
		if err := s.Do(c.c); err != api.OK {
			t.Error(c.kind, err)
		}
		if l := s.List(); !slices.Equal(l, []api.Change{c.c}) {
			t.Error(c.kind, l)
		}
		if v := s.Value(1); (v == 2) != (c.kind == api.VertAgg) {
			t.Error(c.kind, v)
		}
		del := c.c
		del.Val, del.Del = 0, true
		if err := s.Do(del); err != api.OK || len(s.List()) != 0 {
			t.Error(c.kind, err)
		}
		if err := s.Do(del); err != api.ErrNone {
			t.Error(c.kind, err)
		}
	}
}

func TestNilStore(t *testing.T) { // P18.3
	for _, s := range []*agg.Store{nil, {}} {
		for _, time := range []int64{-1, 5} {
			refuse(t, s, rec(1, 2, time), api.ErrFull)
		}
		for _, c := range []api.Change{set(1, 0, 0, 1), gone(1, 0, 0), set(1, 5, 3, 1)} {
			if err := s.Do(c); err != api.ErrFull {
				t.Error(c, err)
			}
		}
		if s.Value(1) != 0 || s.Late(rec(1, 2, 3), math.MaxInt64) || len(s.Expire(math.MaxInt64)) != 0 || len(s.List()) != 0 {
			t.Error(s.Value(1))
		}
	}
}

func TestReplay(t *testing.T) { // P18.4
	rnd := rand.New(rand.NewSource(1))
	for range 500 {
		v := vert(api.VertAgg+rnd.Intn(3), 1+rnd.Int63n(9), []api.Expr{sum, op(api.OpSub, val, op(api.OpAcc)), op(api.OpDiv, con(9), val), op(api.OpAcc)}[rnd.Intn(4)])
		s, other := open(t, v), open(t, v)
		expired := map[api.Change]bool{} // windows that expired, by From and To
		mark := int64(-1)
		for range 60 {
			var done []api.Change
			if rnd.Intn(4) > 0 {
				r := rec(rnd.Int63n(3), rnd.Int63n(5), mark+1+rnd.Int63n(30)-12)
				late := s.Late(r, mark)
				if late {
					continue
				}
				out, l, err := s.Apply(r)
				if err != api.OK {
					continue
				}
				last := l[len(l)-1]
				if out.Key != r.Key || out.Val != last.Val || last.Del || last.Key != r.Key || v.Kind != api.VertAgg && out.Time != last.From || v.Kind == api.VertAgg && out.Time != r.Time {
					t.Fatal(v, r, out, l)
				}
				if v.Kind == api.VertTumble && expired[api.Change{From: last.From, To: last.To}] {
					t.Fatal("a window that expired", v, r, last)
				}
				done = l
			} else {
				mark += rnd.Int63n(8)
				done = s.Expire(mark)
				for _, c := range done {
					expired[api.Change{From: c.From, To: c.To}] = true
				}
			}
			for _, c := range done {
				if err := other.Do(c); err != api.OK {
					t.Fatal(v, c, err)
				}
			}
			if !slices.Equal(s.List(), other.List()) {
				t.Fatal(v, s.List(), other.List())
			}
		}
	}
}

func TestTheVertexIsNotKept(t *testing.T) { // R3
	v := vert(api.VertAgg, 0, op(api.OpAdd, val, op(api.OpAcc)))
	s := open(t, v)
	v.E.Kids[1] = con(1000)
	apply(t, s, rec(1, 5, 9), rec(1, 5, 9), set(1, 0, 0, 5))
}

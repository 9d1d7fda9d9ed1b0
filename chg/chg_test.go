package chg_test

import (
	"cmp"
	"math"
	"math/rand"
	"slices"
	"testing"

	"tidemill/api"
	"tidemill/chg"
)

func record(key, val, time int64) api.Record { return api.Record{Key: key, Val: val, Time: time} }

func change(key, from, to, val int64, del bool) api.Change {
	return api.Change{Key: key, From: from, To: to, Val: val, Del: del}
}

func TestRecords(t *testing.T) { // P15.1
	for _, c := range []struct {
		c        api.Change
		one, two api.Record
	}{
		{change(1, 2, 3, 4, false), record(1, 3, 2), record(1, 4, 0)},
		{change(1, 2, 3, 0, true), record(1, 3, 2), record(1, 0, 0)},
		{change(1, 2, 3, 4, true), record(1, 3, 2), record(1, 4, 0)},
		{change(0, 0, 0, 0, false), api.Record{}, api.Record{}},
		{change(math.MinInt64, -2, -3, math.MaxInt64, false), record(math.MinInt64, -3, -2), record(math.MinInt64, math.MaxInt64, 0)}, // not checked
	} {
		recs, dels := chg.Records(c.c)
		if !slices.Equal(recs, []api.Record{c.one, c.two}) || !slices.Equal(dels, []bool{false, c.c.Del}) {
			t.Errorf("%v: %v, %v", c.c, recs, dels)
		}
	}
}

func TestChanges(t *testing.T) { // P15.2
	a, b := record(1, 3, 2), record(1, 4, 0)
	x, y := record(-5, -7, -6), record(-5, 9, 0)
	for k, c := range []struct {
		recs []api.Record
		dels []bool
		want []api.Change
		err  api.Errno
	}{
		{nil, nil, nil, api.OK},
		{[]api.Record{a, b}, []bool{false, false}, []api.Change{change(1, 2, 3, 4, false)}, api.OK},
		{[]api.Record{a, b}, []bool{false, true}, []api.Change{change(1, 2, 3, 4, true)}, api.OK},
		{[]api.Record{a, b, x, y, a, b}, []bool{false, true, false, false, false, false},
			[]api.Change{change(1, 2, 3, 4, true), change(-5, -6, -7, 9, false), change(1, 2, 3, 4, false)}, api.OK},
		{[]api.Record{a, b}, []bool{true, false}, nil, api.ErrForm},
		{[]api.Record{a, b}, []bool{true, true}, nil, api.ErrForm},
		{[]api.Record{a, b}, []bool{false}, nil, api.ErrForm},
		{[]api.Record{a, b}, nil, nil, api.ErrForm},
		{[]api.Record{a}, []bool{false}, nil, api.ErrForm},
		{nil, []bool{false, false}, nil, api.ErrForm},
		{[]api.Record{a, b, a}, []bool{false, false, false}, nil, api.ErrForm},
		{[]api.Record{a, y}, []bool{false, false}, nil, api.ErrForm},
		{[]api.Record{a, record(1, 4, 1)}, []bool{false, false}, nil, api.ErrForm},
		{[]api.Record{a, record(1, 4, -1)}, []bool{false, true}, nil, api.ErrForm},
		{[]api.Record{a, b, x, b}, []bool{false, false, false, false}, nil, api.ErrForm}, // in one of the pairs
		{[]api.Record{a, b, x, y}, []bool{false, false, true, false}, nil, api.ErrForm},
		{[]api.Record{a, record(1, 4, 1), x, y}, []bool{false, false, false, false}, nil, api.ErrForm},
		{[]api.Record{b, a}, []bool{false, false}, nil, api.ErrForm},
	} {
		if got, err := chg.Changes(c.recs, c.dels); !slices.Equal(got, c.want) || err != c.err || err != api.OK && got != nil {
			t.Errorf("%d: %v, %d", k, got, err)
		}
	}
}

func TestLast(t *testing.T) { // P15.3
	type list = []api.Change
	for k, c := range []struct{ l, want list }{
		{nil, nil},
		{list{change(1, 2, 3, 4, false), change(1, 2, 3, 5, false)}, list{change(1, 2, 3, 5, false)}},
		{list{change(1, 2, 3, 4, false), change(1, 2, 3, 0, true)}, nil},
		{list{change(1, 2, 3, 4, false), change(1, 2, 3, 7, true)}, nil},
		{list{change(1, 2, 3, 0, true), change(1, 2, 3, 4, false)}, list{change(1, 2, 3, 4, false)}},
		{list{change(1, 2, 3, 0, true)}, nil},
		{list{change(1, 2, 3, 4, false), change(1, 2, 4, 0, true), change(1, 1, 3, 0, true), change(2, 2, 3, 0, true)}, list{change(1, 2, 3, 4, false)}},
		{list{change(2, 0, 0, 1, false), change(1, 5, 6, 2, false), change(1, 4, 9, 3, false), change(-1, 9, 9, 4, false), change(1, 5, -5, 5, false)},
			list{change(-1, 9, 9, 4, false), change(1, 4, 9, 3, false), change(1, 5, -5, 5, false), change(1, 5, 6, 2, false), change(2, 0, 0, 1, false)}},
	} {
		if got := chg.Last(c.l); !slices.Equal(got, c.want) {
			t.Errorf("%d: %v", k, got)
		}
	}
}

// anyChanges are changes of few places.
func anyChanges(rnd *rand.Rand, n int) []api.Change {
	var l []api.Change
	for range n {
		l = append(l, change(rnd.Int63n(3)-1, rnd.Int63n(3)-1, rnd.Int63n(3), rnd.Int63n(4), rnd.Intn(3) == 0))
	}
	return l
}

func TestRoundTrips(t *testing.T) { // P15.4
	rnd := rand.New(rand.NewSource(1))
	for range 2000 {
		l := anyChanges(rnd, rnd.Intn(20))
		kept := slices.Clone(l)
		var recs []api.Record
		var dels []bool
		for _, c := range l {
			r, d := chg.Records(c)
			recs, dels = append(recs, r...), append(dels, d...)
		}
		if got, err := chg.Changes(recs, dels); !slices.Equal(got, l) || err != api.OK {
			t.Fatal(l, got, err)
		}
		var want []api.Change
		for i, c := range l {
			later := slices.ContainsFunc(l[i+1:], func(x api.Change) bool { return x.Key == c.Key && x.From == c.From && x.To == c.To })
			if !later && !c.Del {
				want = append(want, c)
			}
		}
		slices.SortFunc(want, func(a, b api.Change) int {
			return cmp.Or(cmp.Compare(a.Key, b.Key), cmp.Compare(a.From, b.From), cmp.Compare(a.To, b.To))
		})
		if got := chg.Last(l); !slices.Equal(got, want) {
			t.Fatal(l, got, want)
		}
		n := rnd.Intn(len(l) + 1)
		if got := chg.Last(append(chg.Last(l[:n]), l[n:]...)); !slices.Equal(got, want) {
			t.Fatal(l, n, got, want)
		}
		if !slices.Equal(l, kept) { // R3
			t.Fatal(l, kept)
		}
	}
}

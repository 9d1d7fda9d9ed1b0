package flow_test

import (
	"math"
	"math/rand"
	"reflect"
	"slices"
	"testing"

	"tidemill/api"
	"tidemill/expr"
	"tidemill/flow"
)

func con(n int64) api.Expr                 { return api.Expr{Op: api.OpConst, N: n} }
func op(op int, kids ...api.Expr) api.Expr { return api.Expr{Op: op, Kids: kids} }
func vert(kind int, e api.Expr) api.Vertex { return api.Vertex{Kind: kind, E: e} }
func rec(key, val, time int64) api.Record  { return api.Record{Key: key, Val: val, Time: time} }

var (
	val  = op(api.OpVal)
	add  = op(api.OpAdd, val, op(api.OpKey))
	over = op(api.OpDiv, con(1), val)
)

func TestApply(t *testing.T) { // P17.1
	r := rec(3, 5, 9)
	type records = []api.Record
	for k, c := range []struct {
		v    api.Vertex
		r    api.Record
		want records
		err  api.Errno
	}{
		{vert(api.VertSource, api.Expr{}), r, records{r}, api.OK},
		{vert(api.VertSink, api.Expr{}), r, records{r}, api.OK},
		{vert(api.VertSource, api.Expr{Op: 99}), r, records{r}, api.OK}, // whatever E is
		{vert(api.VertSink, over), rec(3, 0, 9), records{rec(3, 0, 9)}, api.OK},
		{vert(api.VertMap, add), r, records{rec(3, 8, 9)}, api.OK},
		{vert(api.VertMap, con(0)), rec(3, 5, -7), records{rec(3, 0, -7)}, api.OK},
		{vert(api.VertKey, add), r, records{rec(8, 5, 9)}, api.OK},
		{vert(api.VertFilter, val), r, records{r}, api.OK},
		{vert(api.VertFilter, con(-1)), r, records{r}, api.OK},
		{vert(api.VertFilter, val), rec(3, 0, 9), nil, api.OK},
		{vert(api.VertFlat, con(0)), r, nil, api.OK},
		{vert(api.VertFlat, con(-1)), r, nil, api.OK},
		{vert(api.VertFlat, con(math.MinInt64)), r, nil, api.OK},
		{vert(api.VertFlat, con(1)), r, records{r}, api.OK},
		{vert(api.VertFlat, con(2)), r, records{r, rec(3, 6, 9)}, api.OK},
		{vert(api.VertFlat, con(4)), r, records{r, rec(3, 6, 9), rec(3, 7, 9), rec(3, 8, 9)}, api.OK},
		{vert(api.VertFlat, con(5)), r, records{r, rec(3, 6, 9), rec(3, 7, 9), rec(3, 8, 9)}, api.OK},
		{vert(api.VertFlat, con(math.MaxInt64)), rec(3, math.MaxInt64, 9), records{rec(3, math.MaxInt64, 9), rec(3, math.MinInt64, 9), rec(3, math.MinInt64+1, 9), rec(3, math.MinInt64+2, 9)}, api.OK},
		{vert(api.VertMap, op(api.OpAcc)), r, records{rec(3, 0, 9)}, api.OK}, // the accumulator is 0
		{vert(api.VertMap, over), rec(3, 0, 9), nil, api.ErrDiv},
		{vert(api.VertFilter, over), rec(3, 0, 9), nil, api.ErrDiv},
		{vert(api.VertFlat, over), rec(3, 0, 9), nil, api.ErrDiv},
		{vert(api.VertKey, over), rec(3, 0, 9), nil, api.ErrDiv},
		{vert(api.VertMap, api.Expr{}), r, nil, api.ErrArg},
		{vert(api.VertFilter, api.Expr{}), r, nil, api.ErrArg},
		{vert(api.VertFlat, api.Expr{Op: 99}), r, nil, api.ErrArg},
		{vert(api.VertKey, op(api.OpNeg)), r, nil, api.ErrArg},
		{vert(api.VertAgg, val), r, nil, api.ErrArg},
		{vert(api.VertTumble, val), r, nil, api.ErrArg},
		{vert(api.VertSession, val), r, nil, api.ErrArg},
		{vert(api.VertJoin, val), r, nil, api.ErrArg},
		{vert(0, val), r, nil, api.ErrArg},
		{vert(11, val), r, nil, api.ErrArg},
		{vert(math.MinInt64, val), r, nil, api.ErrArg},
		{vert(api.VertAgg, over), rec(3, 0, 9), nil, api.ErrArg},
		{api.Vertex{Kind: api.VertMap, E: val, N: 99, From: []int{-1}}, r, records{r}, api.OK}, // From and N don't matter
	} {
		if got, err := flow.Apply(c.v, c.r); !slices.Equal(got, c.want) || err != c.err {
			t.Errorf("%d: %v, %d", k, got, err)
		}
	}
}

func TestChain(t *testing.T) { // P17.2
	double := vert(api.VertFlat, con(2))
	ten := vert(api.VertMap, op(api.OpMul, val, con(10)))
	some := vert(api.VertFilter, op(api.OpSub, val, con(50)))
	key := vert(api.VertKey, val)
	type records = []api.Record
	for k, c := range []struct {
		l    []api.Vertex
		want records
		at   int
		err  api.Errno
	}{
		{nil, records{rec(3, 5, 9)}, -1, api.OK},
		{[]api.Vertex{}, records{rec(3, 5, 9)}, -1, api.OK},
		{[]api.Vertex{double}, records{rec(3, 5, 9), rec(3, 6, 9)}, -1, api.OK},
		{[]api.Vertex{double, ten}, records{rec(3, 50, 9), rec(3, 60, 9)}, -1, api.OK},
		{[]api.Vertex{ten, double}, records{rec(3, 50, 9), rec(3, 51, 9)}, -1, api.OK},
		{[]api.Vertex{double, ten, double}, records{rec(3, 50, 9), rec(3, 51, 9), rec(3, 60, 9), rec(3, 61, 9)}, -1, api.OK},
		{[]api.Vertex{double, ten, some, key}, records{rec(60, 60, 9)}, -1, api.OK},
		{[]api.Vertex{ten, some, vert(99, val)}, nil, -1, api.OK}, // nothing comes there
		{[]api.Vertex{ten, vert(api.VertAgg, val)}, nil, 1, api.ErrArg},
		{[]api.Vertex{vert(0, val), vert(api.VertMap, over)}, nil, 0, api.ErrArg},
		{[]api.Vertex{vert(api.VertSource, val), double, vert(api.VertSink, val)}, records{rec(3, 5, 9), rec(3, 6, 9)}, -1, api.OK},
		// the first record passes all of it; the second one, 6, has the error
		{[]api.Vertex{double, vert(api.VertMap, op(api.OpDiv, con(1), op(api.OpSub, val, con(6)))), double}, nil, 1, api.ErrDiv},
		// the first record has the error behind, before the second one has its own ahead
		{[]api.Vertex{double, vert(api.VertMap, op(api.OpDiv, con(7), op(api.OpSub, val, con(6)))), vert(api.VertMap, op(api.OpDiv, con(7), op(api.OpAdd, val, con(7))))}, nil, 2, api.ErrDiv},
	} {
		got, at, err := flow.Chain(c.l, rec(3, 5, 9))
		if !slices.Equal(got, c.want) || at != c.at || err != c.err || err != api.OK && got != nil {
			t.Errorf("%d: %v, %d, %d", k, got, at, err)
		}
	}
}

func TestChainIsFull(t *testing.T) { // P17.2: a vertex has returned more than 10000 records
	flats := func(n int, then ...api.Vertex) []api.Vertex {
		return append(slices.Repeat([]api.Vertex{vert(api.VertFlat, con(4))}, n), then...)
	}
	got, at, err := flow.Chain(flats(6), rec(0, 0, 0))
	if len(got) != 4096 || at != -1 || err != api.OK {
		t.Error(len(got), at, err)
	}
	if got, at, err := flow.Chain(flats(7), rec(0, 0, 0)); got != nil || at != 6 || err != api.ErrFull {
		t.Error(len(got), at, err)
	}
	if got, at, err := flow.Chain(flats(7, vert(api.VertFilter, con(0))), rec(0, 0, 0)); got != nil || at != 6 || err != api.ErrFull {
		t.Error(len(got), at, err)
	}
	if got, at, err := flow.Chain(flats(20), rec(0, 0, 0)); got != nil || at != 19 || err != api.ErrFull { // the last one is the first to be full
		t.Error(len(got), at, err)
	}
	// a vertex that returns four records for each of the values from 0 to 2499, and so many for each of those up to most - 1
	exact := func(most, last int64) []api.Vertex {
		few := vert(api.VertFilter, op(api.OpLess, val, con(most)))
		four := vert(api.VertFlat, op(api.OpIf, op(api.OpLess, val, con(2500)), con(4), con(last)))
		spread := slices.Repeat([]api.Vertex{vert(api.VertMap, op(api.OpMul, val, con(4))), vert(api.VertFlat, con(4))}, 6)
		return append(spread, few, four)
	}
	for k, c := range []struct {
		most, last int64
		n          int
		want       api.Errno
	}{{2499, 4, 9996, api.OK}, {2500, 4, 10000, api.OK}, {2600, 0, 10000, api.OK}, {2501, 1, 0, api.ErrFull}, {2501, 4, 0, api.ErrFull}} {
		got, at, err := flow.Chain(exact(c.most, c.last), rec(0, 0, 0))
		if len(got) != c.n || err != c.want || err == api.OK && at != -1 || err != api.OK && (got != nil || at != 13) {
			t.Error(k, len(got), at, err)
		}
	}
	if got, at, err := flow.Chain(slices.Repeat([]api.Vertex{vert(api.VertMap, val)}, 1<<16), rec(1, 2, 3)); len(got) != 1 || at != -1 || err != api.OK {
		t.Error(len(got), at, err)
	}
}

// anyVertex is some vertex, often one that has no error.
func anyVertex(rnd *rand.Rand) api.Vertex {
	e := []api.Expr{val, add, over, con(2), con(3), op(api.OpMod, val, con(3)), op(api.OpSub, val, con(1)), {}}[rnd.Intn(8)]
	return vert(1+rnd.Intn(5)+rnd.Intn(2)*rnd.Intn(2)*rnd.Intn(6), e)
}

// slow passes records by the words of the document.
func slow(l []api.Vertex, at int, records []api.Record) ([]api.Record, int, api.Errno) {
	if at == len(l) {
		return records, -1, api.OK
	}
	var out []api.Record
	for _, r := range records {
		next, err := flow.Apply(l[at], r)
		if err != api.OK {
			return nil, at, err
		}
		more, i, err := slow(l, at+1, next)
		if err != api.OK {
			return nil, i, err
		}
		out = append(out, more...)
	}
	return out, -1, api.OK
}

func TestCompositions(t *testing.T) { // P17.1 to P17.3
	rnd := rand.New(rand.NewSource(1))
	for range 5000 {
		var l []api.Vertex
		for range rnd.Intn(6) {
			l = append(l, anyVertex(rnd))
		}
		r := rec(rnd.Int63n(5), rnd.Int63n(9)-4, rnd.Int63())
		got, at, err := flow.Chain(l, r)
		want, wantAt, wantErr := slow(l, 0, []api.Record{r})
		if !slices.Equal(got, want) || at != wantAt || err != wantErr {
			t.Fatal(l, r, got, at, err, want, wantAt, wantErr)
		}
		for _, x := range got {
			if x.Time != r.Time {
				t.Fatal(l, r, got)
			}
		}
		v := anyVertex(rnd)
		one, err := flow.Apply(v, r)
		alone, at, err2 := flow.Chain([]api.Vertex{v}, r)
		if !slices.Equal(one, alone) || err != err2 || (at == -1) != (err == api.OK) {
			t.Fatal(v, r, one, alone)
		}
		if n, err2 := expr.Eval(v.E, r, 0); v.Kind == api.VertFilter && (err != err2 || err == api.OK && len(one) > 0 != (n != 0) || len(one) > 0 && one[0] != r) {
			t.Fatal(v, r, one)
		}
	}
}

func TestArgumentsStay(t *testing.T) { // R3
	l := []api.Vertex{vert(api.VertFlat, con(2)), vert(api.VertMap, add)}
	kept := []api.Vertex{vert(api.VertFlat, con(2)), vert(api.VertMap, add)}
	flow.Chain(l, rec(1, 2, 3))
	if !reflect.DeepEqual(l, kept) {
		t.Error(l)
	}
}

package topo_test

import (
	"bytes"
	"fmt"
	"math"
	"math/rand"
	"reflect"
	"slices"
	"testing"

	"tidemill/api"
	"tidemill/expr"
	"tidemill/pack"
	"tidemill/topo"
)

func op(op int, kids ...api.Expr) api.Expr { return api.Expr{Op: op, Kids: kids} }

var (
	val = op(api.OpVal)
	sum = op(api.OpAdd, val, op(api.OpAcc))
)

func vert(kind int, n int64, e api.Expr, from ...int) api.Vertex {
	return api.Vertex{Kind: kind, From: from, E: e, N: n}
}

func source(n int64) api.Vertex         { return vert(api.VertSource, n, api.Expr{}) }
func sink(n int64, from int) api.Vertex { return vert(api.VertSink, n, api.Expr{}, from) }

// all has a vertex of each kind: 0 source, 1 map, 2 filter, 3 flat, 4 key, 5 agg, 6 tumble, 7 session, 8 join, 9 sink.
func all() api.Topo {
	return api.Topo{Parts: 3, V: []api.Vertex{
		source(7),
		vert(api.VertMap, 0, val, 0),
		vert(api.VertFilter, 0, val, 1),
		vert(api.VertFlat, 0, val, 2),
		vert(api.VertKey, 0, val, 3),
		vert(api.VertAgg, 0, sum, 4),
		vert(api.VertTumble, 1<<20, sum, 4),
		vert(api.VertSession, 1, sum, 4),
		vert(api.VertJoin, 0, sum, 3, 5),
		sink(0, 8),
	}}
}

func TestCheck(t *testing.T) { // P5.1
	if i, err := topo.Check(all()); i != -1 || err != api.OK {
		t.Error(i, err)
	}
	if i, err := topo.Check(api.Topo{Parts: 1, V: []api.Vertex{source(0), vert(api.VertAgg, 0, sum, 0), sink(0, 1)}}); i != -1 || err != api.OK {
		t.Error(i, err)
	}
	for _, parts := range []int{math.MinInt64, -1, 0, 1, 8, 9, 1000, math.MaxInt64} {
		x := all()
		x.Parts = parts
		want := api.ErrRange
		if parts >= 1 && parts <= 8 {
			want = api.OK
		}
		if i, err := topo.Check(x); i != -1 || err != want {
			t.Errorf("%d parts: %d, %d", parts, i, err)
		}
	}
	for n := range 30 {
		x := api.Topo{Parts: 1}
		for k := range n {
			if k == 0 {
				x.V = append(x.V, source(0))
			} else {
				x.V = append(x.V, vert(api.VertMap, 0, val, k-1))
			}
		}
		want := api.ErrRange
		if n >= 1 && n <= 24 {
			want = api.OK
		}
		if i, err := topo.Check(x); i != -1 || err != want {
			t.Errorf("%d vertices: %d, %d", n, i, err)
		}
	}
	bad := api.Topo{Parts: 0, V: []api.Vertex{{Kind: 99}}}
	if i, err := topo.Check(bad); i != -1 || err != api.ErrRange {
		t.Error("Parts comes first:", i, err)
	}
}

// needs is the table of the document: how many From, whether E is zero or may have OpAcc, the range of N.
var needs = map[int]struct {
	from        int
	zero, acc   bool
	least, most int64
}{
	api.VertSource:  {0, true, false, 0, 7},
	api.VertMap:     {1, false, false, 0, 0},
	api.VertFilter:  {1, false, false, 0, 0},
	api.VertFlat:    {1, false, false, 0, 0},
	api.VertKey:     {1, false, false, 0, 0},
	api.VertAgg:     {1, false, true, 0, 0},
	api.VertTumble:  {1, false, true, 1, 1 << 20},
	api.VertSession: {1, false, true, 1, 1 << 20},
	api.VertJoin:    {2, false, true, 0, 0},
	api.VertSink:    {1, true, false, 0, 7},
}

// last returns the error of v as the last vertex behind a source, a map and an agg.
func last(t *testing.T, v api.Vertex) api.Errno {
	x := api.Topo{Parts: 1, V: []api.Vertex{source(0), vert(api.VertMap, 0, val, 0), vert(api.VertAgg, 0, sum, 1), v}}
	if v.Kind == api.VertSource && v.N == 0 {
		x.V[0].N = 7
	}
	i, err := topo.Check(x)
	if err == api.OK && i != -1 || err != api.OK && i != 3 {
		t.Errorf("vertex %d has the error %d", i, err)
	}
	return err
}

func TestTheTable(t *testing.T) { // P5.1
	exprs := []struct {
		e               api.Expr
		zero, may, uses bool
	}{
		{api.Expr{}, true, false, false},
		{api.Expr{Kids: []api.Expr{}}, true, false, false},
		{api.Expr{N: 1}, false, false, false},
		{api.Expr{Kids: []api.Expr{{}}}, false, false, false},
		{val, false, true, false},
		{sum, false, true, true},
		{op(api.OpAcc), false, true, true},
		{op(api.OpIf, val, val, op(api.OpNeg, op(api.OpAcc))), false, true, true},
		{op(api.OpAdd, val), false, false, false},
		{api.Expr{Op: 17}, false, false, false},
	}
	for kind, need := range needs {
		for n := range 4 {
			for _, x := range exprs {
				for _, num := range []int64{math.MinInt64, -1, 0, 1, 7, 8, 1 << 20, 1<<20 + 1, math.MaxInt64} {
					v := api.Vertex{Kind: kind, From: []int{2, 2, 2}[:n], E: x.e, N: num}
					ok := n == need.from && num >= need.least && num <= need.most
					ok = ok && (need.zero && x.zero || !need.zero && x.may && (need.acc || !x.uses))
					want := api.ErrForm
					if ok {
						want = api.OK
					}
					if err := last(t, v); err != want {
						t.Errorf("kind %d, %d From, E %v, N %d: %d, want %d", kind, n, x.e, num, err, want)
					}
				}
			}
		}
	}
}

func TestKinds(t *testing.T) { // P5.1
	for _, kind := range []int{math.MinInt64, -1, 0, 11, 12, 1000, math.MaxInt64} {
		if err := last(t, vert(kind, 99, api.Expr{}, 99)); err != api.ErrArg {
			t.Errorf("kind %d: %d", kind, err)
		}
	}
}

func TestFrom(t *testing.T) { // P5.1
	for _, f := range []int{math.MinInt64, -1, 0, 1, 2, 3, 4, math.MaxInt64} {
		want := api.ErrRange
		if f >= 0 && f < 3 {
			want = api.OK
		}
		if err := last(t, vert(api.VertMap, 0, val, f)); err != want {
			t.Errorf("From %d: %d", f, err)
		}
		if err := last(t, vert(api.VertJoin, 0, val, f, 2)); err != want {
			t.Errorf("From %d and 2: %d", f, err)
		}
		if want == api.OK && f != 2 {
			want = api.ErrForm
		}
		if err := last(t, vert(api.VertJoin, 0, val, 1, f)); err != want {
			t.Errorf("From 1 and %d: %d", f, err)
		}
	}
	if err := last(t, vert(api.VertMap, 99, api.Expr{Op: 99}, 0, 1, 3)); err != api.ErrRange {
		t.Error("ErrRange comes ahead of ErrForm:", err)
	}
	if err := last(t, vert(api.VertSource, 0, api.Expr{}, 0)); err != api.ErrForm {
		t.Error("a source of an earlier vertex:", err)
	}
	if err := last(t, vert(api.VertSource, 0, api.Expr{}, 3)); err != api.ErrRange {
		t.Error("a source of itself:", err)
	}
}

func TestJoinsNeedATable(t *testing.T) { // P5.1
	for second, want := range []api.Errno{5, 5, 5, 5, 5, 0, 5, 5, 5, 5} {
		x := all()
		x.V = append(x.V, vert(api.VertJoin, 0, val, 0, second))
		i, err := topo.Check(x)
		if err != want || err == api.OK && i != -1 || err != api.OK && i != 10 {
			t.Errorf("with vertex %d: %d, %d", second, i, err)
		}
	}
}

func TestSinksHaveNoUsers(t *testing.T) { // P5.1
	for kind, need := range needs {
		if need.from == 0 {
			continue
		}
		x := all()
		v := api.Vertex{Kind: kind, From: []int{9, 5}[:need.from], E: val, N: need.most}
		if need.zero {
			v.E = api.Expr{}
		}
		x.V = append(x.V, v)
		if i, err := topo.Check(x); i != 10 || err != api.ErrForm {
			t.Errorf("kind %d of a sink: %d, %d", kind, i, err)
		}
	}
	x := all()
	x.V = append(x.V, sink(0, 9)) // the number 0 is taken, and it's of a sink
	if i, err := topo.Check(x); i != 10 || err != api.ErrTaken {
		t.Error("ErrTaken comes ahead of a sink in From:", i, err)
	}
	x.V[10].N = 8
	if i, err := topo.Check(x); i != 10 || err != api.ErrForm {
		t.Error(i, err)
	}
}

func TestTakenNumbers(t *testing.T) { // P5.1
	for _, c := range []struct {
		v    []api.Vertex
		i    int
		want api.Errno
	}{
		{[]api.Vertex{source(0), source(1), source(0)}, 2, api.ErrTaken},
		{[]api.Vertex{source(3), source(3)}, 1, api.ErrTaken},
		{[]api.Vertex{source(3), sink(3, 0)}, -1, api.OK},
		{[]api.Vertex{source(3), sink(3, 0), sink(3, 0)}, 2, api.ErrTaken},
		{[]api.Vertex{source(0), sink(3, 0), sink(4, 0), source(4), sink(0, 3)}, -1, api.OK},
		{[]api.Vertex{source(0), vert(api.VertTumble, 3, val, 0), vert(api.VertSession, 3, val, 0), source(3), vert(api.VertTumble, 3, val, 0)}, -1, api.OK},
		{[]api.Vertex{source(0), vert(api.VertSource, 0, val)}, 1, api.ErrForm},
		{[]api.Vertex{source(0), {Kind: 11}, source(0)}, 1, api.ErrArg},
	} {
		if i, err := topo.Check(api.Topo{Parts: 1, V: c.v}); i != c.i || err != c.want {
			t.Errorf("%v: %d, %d", c.v, i, err)
		}
	}
}

func TestBytes(t *testing.T) { // P5.2
	x := api.Topo{Parts: 2, V: []api.Vertex{source(3), vert(api.VertTumble, 300, sum, 0), vert(api.VertAgg, 0, op(api.OpNeg, val), 1), vert(api.VertJoin, 0, val, 1, 2), sink(7, 3)}}
	want := []byte{
		2, 5,
		1, 0, 6, 0,
		7, 1, 0, 216, 4, 3, 6, 3, 5,
		6, 1, 2, 0, 2, 14, 3,
		9, 2, 2, 4, 0, 1, 3,
		10, 1, 6, 14, 0,
	}
	if b, err := topo.Bytes(x); err != api.OK || !bytes.Equal(b, want) {
		t.Error(b, err)
	}
	if got, err := topo.Of(want); err != api.OK || !same(got, x) {
		t.Error(got, err)
	}
	for _, c := range []struct {
		x    api.Topo
		want api.Errno
	}{
		{api.Topo{}, api.ErrRange},
		{api.Topo{Parts: 1, V: []api.Vertex{{}}}, api.ErrArg},
		{api.Topo{Parts: 1, V: []api.Vertex{source(0), sink(0, 1)}}, api.ErrRange},
		{api.Topo{Parts: 1, V: []api.Vertex{source(0), source(0)}}, api.ErrTaken},
		{api.Topo{Parts: 1, V: []api.Vertex{source(8)}}, api.ErrForm},
	} {
		if b, err := topo.Bytes(c.x); b != nil || err != c.want {
			t.Errorf("%v: %v, %d", c.x, b, err)
		}
	}
}

// same compares topologies; nil and empty lists are equivalent.
func same(a, b api.Topo) bool { return fmt.Sprint(a) == fmt.Sprint(b) }

// raw encodes a topology that need not be valid; an E that is not valid has no bytes.
func raw(x api.Topo) []byte {
	b := pack.Uint(pack.Uint(nil, uint64(x.Parts)), uint64(len(x.V)))
	for _, v := range x.V {
		e, _ := expr.Bytes(v.E)
		b = pack.Bytes(pack.Int(pack.Ints(pack.Uint(b, uint64(v.Kind)), v.From), v.N), e)
	}
	return b
}

func TestOfErrors(t *testing.T) { // P5.2
	join := func(l ...[]byte) []byte { return slices.Concat(l...) }
	src := []byte{1, 0, 0, 0}
	huge := pack.Uint(nil, math.MaxUint64)
	one := func(v ...byte) []byte { return append([]byte{1, 1}, v...) }
	for k, c := range []struct {
		b    []byte
		want api.Errno
	}{
		{nil, api.ErrShort},
		{[]byte{1}, api.ErrShort},
		{[]byte{128, 0}, api.ErrForm},
		{[]byte{1, 129, 0}, api.ErrForm},
		{[]byte{1, 0}, api.ErrRange},
		{[]byte{1, 0, 0}, api.ErrForm}, // what follows comes ahead of Check
		{[]byte{1, 25}, api.ErrRange},  // as soon as the number was read
		{[]byte{1, 25, 128, 0}, api.ErrRange},
		{[]byte{1, 24}, api.ErrShort},
		{join([]byte{1}, huge), api.ErrRange},
		{join(huge, []byte{1}, src), api.ErrRange},
		{join(pack.Uint(nil, 1<<32+1), []byte{1}, src), api.ErrRange},
		{join([]byte{0, 1}, src), api.ErrRange},
		{join([]byte{9, 1}, src), api.ErrRange},
		{join([]byte{9, 1}, src, src), api.ErrForm},
		{join([]byte{8, 1}, src), api.OK},
		{join([]byte{8, 1}, src, []byte{0}), api.ErrForm},
		{join([]byte{8, 2}, src), api.ErrShort},
		{one(0, 0, 0, 0), api.ErrArg},
		{one(11, 0, 0, 0), api.ErrArg},
		{join(one(), pack.Uint(nil, 1<<32+1), []byte{0, 0, 0}), api.ErrArg},
		{join(one(), huge, []byte{0, 0, 0}), api.ErrArg},
		{join(one(), huge, []byte{0, 0, 0, 0}), api.ErrForm},
		{one(1, 2, 0, 0, 0, 0), api.ErrRange},
		{one(1, 3, 0, 0, 0, 0, 0), api.ErrRange},
		{one(1, 3), api.ErrRange}, // ahead of ErrShort
		{one(1, 3, 0, 0, 0, 0, 0, 128, 0), api.ErrRange},
		{one(1, 0, 16, 0), api.ErrForm}, // N 8
		{one(1, 0, 1, 0), api.ErrForm},  // N -1
		{one(1, 0, 128, 0, 0), api.ErrForm},
		{one(1, 0, 0, 1), api.ErrShort},
		{one(1, 0, 0, 1, 0), api.ErrForm},  // the error of expr.Of
		{one(1, 0, 0, 1, 99), api.ErrForm}, // likewise
		{one(1, 0, 0, 1, 14), api.ErrShort},
		{join(one(1, 0, 0, 16), bytes.Repeat([]byte{14}, 16)), api.ErrDeep},
		{one(99, 0, 0, 1, 14), api.ErrShort}, // in the order of the bytes
		{join([]byte{1, 2, 1, 0, 0, 1, 14}, []byte{128, 0}), api.ErrShort},
		{join([]byte{1, 2, 1, 0, 0, 1, 99}, []byte{128}), api.ErrForm},
		{join([]byte{1, 2}, src, src), api.ErrTaken},
		{join([]byte{1, 2}, src, []byte{2, 1, 0, 0, 1, 3}), api.OK},
		{join([]byte{1, 2}, src, []byte{2, 1, 2, 0, 1, 3}), api.ErrRange},
		{join([]byte{1, 2}, src, []byte{2, 1, 0, 0, 0}), api.ErrForm}, // a map of the zero E
		{join([]byte{1, 2}, src, []byte{2, 1, 0, 0, 1, 5}), api.ErrForm},
		{join([]byte{1, 2}, src, []byte{2}, pack.Ints(nil, []int{1 << 31}), []byte{0, 1, 3}), api.ErrRange},
		{join([]byte{1, 2}, src, []byte{2}, pack.Ints(nil, []int{1<<31 - 1}), []byte{0, 1, 3}), api.ErrRange},
		{join([]byte{1, 2}, src, []byte{2}, pack.Ints(nil, []int{1<<31 - 1}), []byte{0, 1, 99}), api.ErrForm},
	} {
		x, err := topo.Of(c.b)
		if err != c.want || err != api.OK && !reflect.DeepEqual(x, api.Topo{}) {
			t.Errorf("%d: %v: %v, %d; want %d", k, c.b, x, err, c.want)
		}
	}
	b, _ := topo.Bytes(all())
	for n := range b {
		if _, err := topo.Of(b[:n]); err != api.ErrShort {
			t.Errorf("the first %d bytes: %d", n, err)
		}
	}
}

func TestUsers(t *testing.T) { // P5.3
	x := all()
	for v, want := range [][]int{{1}, {2}, {3}, {4, 8}, {5, 6, 7}, {8}, nil, nil, {9}, nil, nil} {
		if got := topo.Users(x, v); !slices.Equal(got, want) {
			t.Errorf("users of %d: %v", v, got)
		}
	}
	odd := api.Topo{V: []api.Vertex{{From: []int{-1, 5, 5}}, {From: []int{1, 9}}, {Kind: 77, From: []int{5, 0, 1, 2, 3, 5}}}}
	for v, want := range map[int][]int{-1: {0}, 5: {0, 2}, 1: {1, 2}, 9: {1}, 4: nil, math.MinInt64: nil, math.MaxInt64: nil} {
		if got := topo.Users(odd, v); !slices.Equal(got, want) {
			t.Errorf("users of %d: %v", v, got)
		}
	}
	if got := topo.Users(api.Topo{}, 0); len(got) != 0 {
		t.Error(got)
	}
}

// anyTopo is some topology, often valid.
func anyTopo(rnd *rand.Rand) api.Topo {
	x := api.Topo{Parts: rnd.Intn(9)}
	for i := range 1 + rnd.Intn(7) {
		v := api.Vertex{Kind: 1 + rnd.Intn(10)}
		if i == 0 {
			v.Kind = api.VertSource
		}
		need := needs[v.Kind]
		for range need.from {
			v.From = append(v.From, rnd.Intn(i+1))
		}
		v.N = need.least + rnd.Int63n(need.most-need.least+1)
		if !need.zero {
			v.E = []api.Expr{val, sum, {Op: api.OpConst, N: rnd.Int63()}}[rnd.Intn(3)]
		}
		x.V = append(x.V, v)
	}
	return x
}

func TestRoundTrips(t *testing.T) { // P5.4
	rnd := rand.New(rand.NewSource(1))
	valid := 0
	for range 30000 {
		x := anyTopo(rnd)
		i, want := topo.Check(x)
		b, err := topo.Bytes(x)
		if err != want || (err == api.OK) != (len(b) > 0) {
			t.Fatal(x, err, want)
		}
		if got, err := topo.Of(raw(x)); err != want || err == api.OK && !same(got, x) {
			t.Fatal(x, got, err)
		}
		if err != api.OK {
			continue
		}
		valid++
		if !bytes.Equal(b, raw(x)) || i != -1 {
			t.Fatal(x, b, i)
		}
		for i, v := range x.V { // there is an earlier vertex, and no cycle
			if v.Kind != api.VertSource && (len(v.From) == 0 || slices.Max(v.From) >= i) {
				t.Fatal(x)
			}
		}
		b[rnd.Intn(len(b))] ^= 1 << rnd.Intn(8)
		if got, err := topo.Of(b); err == api.OK {
			if _, err := topo.Check(got); err != api.OK {
				t.Fatal(b, got)
			}
		}
	}
	if valid < 1000 {
		t.Error("valid ones:", valid)
	}
}

func TestArgumentsStay(t *testing.T) { // R3
	x := all()
	topo.Check(x)
	b, _ := topo.Bytes(x)
	topo.Users(x, 3)
	if !reflect.DeepEqual(x, all()) {
		t.Error(x)
	}
	kept := bytes.Clone(b)
	y, _ := topo.Of(b)
	y.V[8].From[0] = 55
	y.V[5].E.Kids[0].Op = 66
	if !bytes.Equal(b, kept) || y.V[6].E.Kids[0].Op != api.OpVal {
		t.Error(y)
	}
}

package model_test

import (
	"fmt"
	"math"
	"math/rand"
	"slices"
	"testing"

	"tidemill/api"
	"tidemill/cut"
	"tidemill/model"
	"tidemill/topo"
)

const most = api.MaxTime

func con(n int64) api.Expr                 { return api.Expr{Op: api.OpConst, N: n} }
func op(op int, kids ...api.Expr) api.Expr { return api.Expr{Op: op, Kids: kids} }
func rec(key, val, time int64) api.Record  { return api.Record{Key: key, Val: val, Time: time} }

var (
	val  = op(api.OpVal)
	sum  = op(api.OpAdd, val, op(api.OpAcc))
	over = op(api.OpDiv, con(100), val)
)

func source(n int64) api.Vertex { return api.Vertex{Kind: api.VertSource, N: n} }
func sink(n int64, from int) api.Vertex {
	return api.Vertex{Kind: api.VertSink, N: n, From: []int{from}}
}
func vert(kind int, n int64, e api.Expr, from ...int) api.Vertex {
	return api.Vertex{Kind: kind, N: n, E: e, From: from}
}

func lay(l ...api.Vertex) api.Topo { return api.Topo{Parts: 2, V: l} }

func open(t *testing.T, x api.Topo, part int) *model.Machine {
	t.Helper()
	m, err := model.New(x, part)
	if m == nil || err != api.OK {
		t.Fatal(part, err)
	}
	return m
}

func out(v int, r api.Record) api.Out                  { return api.Out{Vert: v, Rec: r} }
func dead(v int, r api.Record, err api.Errno) api.Dead { return api.Dead{Vert: v, Rec: r, Err: err} }
func set(key, from, to, val int64) api.Change {
	return api.Change{Key: key, From: from, To: to, Val: val}
}
func gone(key, from, to int64) api.Change {
	return api.Change{Key: key, From: from, To: to, Del: true}
}

// told lays down what a step tells: outs, changes with their vertices, and deads.
func told(l ...any) model.Told {
	var x model.Told
	v := -1
	for _, y := range l {
		switch y := y.(type) {
		case api.Out:
			x.Outs = append(x.Outs, y)
		case int:
			v = y
		case api.Change:
			x.Verts, x.Changes = append(x.Verts, v), append(x.Changes, y)
		case api.Dead:
			x.Deads = append(x.Deads, y)
		}
	}
	return x
}

func same(a, b any) bool { return fmt.Sprint(a) == fmt.Sprint(b) }

// step takes a step and checks what it tells.
func step(t *testing.T, m *model.Machine, v int, r api.Record, l ...any) {
	t.Helper()
	if got, err := m.Step(v, r); !same(got, told(l...)) || err != api.OK {
		t.Errorf("step %d %v:\n%v, %d\nwant %v", v, r, got, err, told(l...))
	}
}

func TestNew(t *testing.T) { // P20.1
	two := lay(source(0), vert(api.VertKey, 0, val, 0), vert(api.VertAgg, 0, sum, 1), sink(0, 2))
	for part, inputs := range [][]int{{0}, {1}} {
		m := open(t, two, part)
		if !slices.Equal(m.Inputs(), inputs) || m.Mark() != -1 {
			t.Error(part, m.Inputs(), m.Mark())
		}
		for v := -1; v < 5; v++ {
			if l := m.List(v); len(l) != 0 {
				t.Error(part, v, l)
			}
		}
	}
	for _, part := range []int{math.MinInt64, -1, 2, 3, math.MaxInt64} {
		if m, err := model.New(two, part); m != nil || err != api.ErrArg {
			t.Error(part, err)
		}
	}
	for _, x := range []api.Topo{{}, lay(), lay(sink(0, 0)), lay(source(0), source(0)), lay(source(9)), lay(api.Vertex{})} {
		_, want := topo.Check(x)
		for _, part := range []int{-1, 0, 7} { // the error of Check comes first
			if m, err := model.New(x, part); m != nil || err != want {
				t.Error(part, err, want)
			}
		}
	}
}

func TestTheExample(t *testing.T) { // P20.2, P20.3
	m := open(t, lay(source(0), vert(api.VertAgg, 0, sum, 0), sink(0, 1)), 0)
	step(t, m, 0, rec(1, 5, 7), out(2, rec(1, 5, 7)), 0, set(0, 0, 0, 7), 1, set(1, 0, 0, 5))
	step(t, m, 0, rec(1, 6, 3), out(2, rec(1, 11, 3)), 1, set(1, 0, 0, 11))
	step(t, m, 0, rec(1, 1, 8), out(2, rec(1, 12, 8)), 0, set(0, 0, 0, 8), 1, set(1, 0, 0, 12))
	if m.Mark() != 8 {
		t.Error(m.Mark())
	}
}

func TestStepsOfOthers(t *testing.T) { // P20.2
	m := open(t, lay(source(0), vert(api.VertKey, 0, val, 0), sink(0, 1), sink(1, 0)), 1)
	for _, v := range []int{math.MinInt64, -1, 0, 2, 3, 4, math.MaxInt64} {
		for _, time := range []int64{-1, 5} { // ErrNone comes first
			if got, err := m.Step(v, rec(1, 2, time)); !same(got, model.Told{}) || err != api.ErrNone {
				t.Error(v, got, err)
			}
		}
	}
	step(t, m, 1, rec(1, 2, 5), out(2, rec(1, 2, 5)), 1, set(1, 0, 0, 5)) // Key is the part
	m = open(t, lay(source(0), vert(api.VertKey, 0, val, 0), sink(0, 1), sink(1, 0)), 0)
	step(t, m, 0, rec(1, 2, 5), out(1, rec(2, 2, 5)), out(3, rec(1, 2, 5)), 0, set(0, 0, 0, 5))
}

func TestBadTimes(t *testing.T) { // P20.2
	m := open(t, lay(source(0), vert(api.VertTumble, 10, sum, 0), sink(0, 0)), 0)
	step(t, m, 0, rec(1, 2, 5), out(2, rec(1, 2, 5)), 0, set(0, 0, 0, 5), 1, set(1, 0, 10, 2))
	for _, time := range []int64{math.MinInt64, -1, most + 1, math.MaxInt64} {
		step(t, m, 0, rec(1, 2, time), dead(0, rec(1, 2, time), api.ErrRange))
	}
	if m.Mark() != 5 {
		t.Error(m.Mark())
	}
	step(t, m, 0, rec(1, 2, most), out(2, rec(1, 2, most)), 0, set(0, 0, 0, most), 1, set(1, most/10*10, most/10*10+10, 2), gone(1, 0, 10))
}

func TestStatelessVertices(t *testing.T) { // P20.3
	m := open(t, lay(
		source(0),
		vert(api.VertFlat, 0, con(2), 0),
		vert(api.VertFilter, 0, op(api.OpMod, val, con(2)), 1),
		vert(api.VertMap, 0, op(api.OpMul, val, con(10)), 1),
		sink(0, 2),
		sink(1, 3),
		vert(api.VertKey, 0, val, 3),
		sink(2, 0),
	), 0)
	step(t, m, 0, rec(1, 4, 0), // each record goes to all users, in order, before the next one
		out(5, rec(1, 40, 0)), out(6, rec(40, 40, 0)), // 4 is filtered out
		out(4, rec(1, 5, 0)), out(5, rec(1, 50, 0)), out(6, rec(50, 50, 0)),
		out(7, rec(1, 4, 0)),
		0, set(0, 0, 0, 0))
	m = open(t, lay(
		source(0),
		vert(api.VertMap, 0, over, 0),
		vert(api.VertFilter, 0, over, 0),
		vert(api.VertFlat, 0, over, 0),
		vert(api.VertKey, 0, over, 0),
		vert(api.VertAgg, 0, over, 0),
		vert(api.VertTumble, 5, over, 0),
		vert(api.VertSession, 5, over, 0),
		vert(api.VertJoin, 0, over, 0, 5),
		sink(0, 0), sink(1, 1), sink(2, 2), sink(3, 3), sink(4, 5), sink(5, 6), sink(6, 7), sink(7, 8),
	), 0)
	r := rec(1, 0, 0)
	step(t, m, 0, r, out(9, r), 0, set(0, 0, 0, 0), dead(1, r, api.ErrDiv), dead(2, r, api.ErrDiv), dead(3, r, api.ErrDiv),
		dead(4, r, api.ErrDiv), dead(5, r, api.ErrDiv), dead(6, r, api.ErrDiv), dead(7, r, api.ErrDiv), dead(8, r, api.ErrDiv))
}

func TestStores(t *testing.T) { // P20.3
	m := open(t, lay(
		source(0),
		vert(api.VertTumble, 10, sum, 0),
		vert(api.VertSession, 10, sum, 0),
		sink(0, 1), sink(1, 2),
	), 0)
	step(t, m, 0, rec(1, 2, 5), out(3, rec(1, 2, 0)), out(4, rec(1, 2, 5)), 0, set(0, 0, 0, 5), 1, set(1, 0, 10, 2), 2, set(1, 5, 5, 2))
	step(t, m, 0, rec(1, 3, 12), out(3, rec(1, 3, 10)), out(4, rec(1, 5, 5)), 0, set(0, 0, 0, 12), 1, set(1, 10, 20, 3), 2, gone(1, 5, 5), set(1, 5, 12, 5))
	r := rec(1, 4, 5) // the window has ended, the session has not
	step(t, m, 0, r, out(4, rec(1, 9, 5)), 2, set(1, 5, 12, 9), dead(1, r, api.ErrLate))
	r = rec(1, 4, 2) // nor has this one: 2 + 10 is not above the mark
	step(t, m, 0, r, dead(1, r, api.ErrLate), dead(2, r, api.ErrLate))
	step(t, m, 0, rec(2, 1, 22), out(3, rec(2, 1, 20)), out(4, rec(2, 1, 22)), // both expire what has ended
		0, set(0, 0, 0, 22), 1, set(2, 20, 30, 1), 2, set(2, 22, 22, 1), 1, gone(1, 0, 10), 2, gone(1, 5, 12))
	step(t, m, 0, rec(2, 1, 12), 0, dead(1, rec(2, 1, 12), api.ErrLate), dead(2, rec(2, 1, 12), api.ErrLate))
}

func TestLateByAllInputs(t *testing.T) { // P20.2, P20.3: the Mark is the least of both inputs
	m := open(t, lay(source(0), source(1), vert(api.VertAgg, 0, sum, 1), vert(api.VertJoin, 0, val, 0, 2), vert(api.VertTumble, 10, sum, 3), sink(0, 4)), 0)
	step(t, m, 0, rec(1, 1, 50), out(5, rec(1, 1, 50)), 0, set(0, 0, 0, 50), 4, set(1, 50, 60, 1))
	step(t, m, 0, rec(1, 2, 5), out(5, rec(1, 2, 0)), 4, set(1, 0, 10, 2))
	if m.Mark() != -1 {
		t.Error(m.Mark())
	}
	step(t, m, 1, rec(1, 9, 15), 1, set(0, 0, 0, 15), 2, set(1, 0, 0, 9))
	step(t, m, 0, rec(1, 2, 5), dead(4, rec(1, 2, 5), api.ErrLate))
	step(t, m, 1, rec(1, 9, 20), 1, set(0, 0, 0, 20), 2, set(1, 0, 0, 18), 4, gone(1, 0, 10))
	if m.Mark() != 20 {
		t.Error(m.Mark())
	}
}

func TestFullStores(t *testing.T) { // P20.3: what Apply refuses
	m := open(t, lay(source(0), vert(api.VertAgg, 0, sum, 0), sink(0, 1)), 0)
	for key := range int64(1024) {
		if got, err := m.Step(0, rec(key, 1, 0)); len(got.Outs) != 1 || err != api.OK {
			t.Fatal(key, got, err)
		}
	}
	step(t, m, 0, rec(5000, 1, 0), dead(1, rec(5000, 1, 0), api.ErrFull))
}

func TestJoins(t *testing.T) { // P20.3
	m := open(t, lay(source(0), source(1), vert(api.VertAgg, 0, val, 1), vert(api.VertJoin, 0, op(api.OpDiv, con(100), op(api.OpAcc)), 0, 2), sink(0, 3), sink(1, 2)), 0)
	r := rec(7, 1, 3)
	step(t, m, 0, r, 0, set(0, 0, 0, 3), dead(3, r, api.ErrDiv)) // there is no value yet
	step(t, m, 1, rec(7, 4, 2), out(5, rec(7, 4, 2)), 1, set(0, 0, 0, 2), 2, set(7, 0, 0, 4))
	step(t, m, 0, r, out(4, rec(7, 25, 3)))
	step(t, m, 0, rec(8, 1, 3), dead(3, rec(8, 1, 3), api.ErrDiv))
	// a join of a table with itself, and one whose table comes of the same record
	m = open(t, lay(source(0), vert(api.VertAgg, 0, sum, 0), vert(api.VertJoin, 0, sum, 1, 1), vert(api.VertJoin, 0, sum, 0, 1), sink(0, 2), sink(1, 3)), 0)
	step(t, m, 0, rec(1, 5, 0), out(4, rec(1, 10, 0)), out(5, rec(1, 10, 0)), 0, set(0, 0, 0, 0), 1, set(1, 0, 0, 5))
	step(t, m, 0, rec(1, 1, 0), out(4, rec(1, 12, 0)), out(5, rec(1, 7, 0)), 1, set(1, 0, 0, 6))
}

func TestUsersOfOtherParts(t *testing.T) { // terminology: users belong to the part
	x := lay(source(0), vert(api.VertKey, 0, val, 0), sink(0, 1), vert(api.VertAgg, 0, sum, 1), sink(1, 3))
	parts, _ := cut.Parts(x)
	if !slices.Equal(parts, []int{0, 0, 1, 2, 2}) {
		t.Fatal(parts)
	}
	step(t, open(t, x, 1), 1, rec(1, 2, 3), out(2, rec(1, 2, 3)), 1, set(1, 0, 0, 3))
	step(t, open(t, x, 2), 1, rec(1, 2, 3), out(4, rec(1, 2, 3)), 1, set(2, 0, 0, 3), 3, set(1, 0, 0, 2))
	// a part that reads the log of a vertex that it has itself
	x = lay(source(0), vert(api.VertKey, 0, val, 0), vert(api.VertAgg, 0, sum, 1), vert(api.VertJoin, 0, sum, 0, 2), sink(0, 3))
	m := open(t, x, 0)
	step(t, m, 0, rec(1, 2, 3), out(1, rec(2, 2, 3)), out(4, rec(1, 2, 3)), 0, set(0, 0, 0, 3))
	step(t, m, 1, rec(1, 7, 4), 1, set(0, 0, 0, 4), 2, set(1, 0, 0, 7))
	step(t, m, 0, rec(1, 2, 3), out(1, rec(2, 2, 3)), out(4, rec(1, 9, 3)))
}

func TestTooManyDeliveries(t *testing.T) { // P20.3: 1000 in a step
	four := con(4)
	x := lay(source(0), vert(api.VertFlat, 0, four, 0), vert(api.VertFlat, 0, four, 1), vert(api.VertFlat, 0, four, 2), vert(api.VertFlat, 0, four, 3), vert(api.VertFlat, 0, four, 4), sink(0, 5))
	m := open(t, x, 0)
	// records that are delivered: 1 + 4 + 16 + 64 + 256 to the flats, and 1024 to the sink, depth first
	for range 2 {
		got, err := m.Step(0, rec(1, 0, 0))
		if err != api.OK || len(got.Outs) == 0 || len(got.Deads) == 0 {
			t.Fatal(len(got.Outs), len(got.Deads), err)
		}
		delivered, outs := 0, 0
		var deads []api.Dead
		var send func(u int, r api.Record)
		send = func(u int, r api.Record) {
			if delivered == 1000 {
				deads = append(deads, dead(u, r, api.ErrFull))
				return
			}
			delivered++
			if u == 6 {
				outs++
				return
			}
			for i := range int64(4) {
				send(u+1, rec(1, r.Val+i, 0))
			}
		}
		send(1, rec(1, 0, 0))
		if len(got.Outs) != outs || !slices.Equal(got.Deads, deads) {
			t.Error(len(got.Outs), outs, len(got.Deads), len(deads))
		}
	}
	// a join that its table comes to counts as delivered, too
	y := lay(source(0), vert(api.VertFlat, 0, four, 0), vert(api.VertFlat, 0, four, 1), vert(api.VertFlat, 0, four, 2), vert(api.VertFlat, 0, four, 3), vert(api.VertAgg, 0, sum, 4), vert(api.VertJoin, 0, sum, 0, 5), vert(api.VertJoin, 0, sum, 0, 5), vert(api.VertJoin, 0, sum, 0, 5))
	got, _ := open(t, y, 0).Step(0, rec(1, 0, 0))
	stores := 0 // 256 records come to the agg, each of which goes to three joins
	for _, v := range got.Verts {
		if v == 5 {
			stores++
		}
	}
	if stores < 200 || stores > 250 || len(got.Deads) == 0 {
		t.Error(stores, len(got.Deads))
	}
}

func TestExactlyAThousand(t *testing.T) { // P20.3
	l := []api.Vertex{source(0)}
	for i := range 4 { // 1 + 4 + 16 + 64 records to the flats
		l = append(l, vert(api.VertFlat, 0, con(4), i))
	}
	for _, from := range []int{4, 4, 4, 3, 3, 2, 0, 0, 0} { // 256 for a user of the last flat, and so on: 1000 in all
		l = append(l, vert(api.VertMap, 0, val, from))
	}
	m := open(t, lay(l...), 0)
	for range 2 { // each step counts anew
		if got, _ := m.Step(0, rec(1, 0, 0)); len(got.Deads) != 0 {
			t.Error(got.Deads)
		}
	}
	l = append(l, sink(0, 0), vert(api.VertAgg, 0, sum, 0))
	step(t, open(t, lay(l...), 0), 0, rec(1, 0, 0), 0, set(0, 0, 0, 0), dead(14, rec(1, 0, 0), api.ErrFull), dead(15, rec(1, 0, 0), api.ErrFull))
}

func TestDo(t *testing.T) { // P20.4
	m := open(t, lay(source(0), vert(api.VertKey, 0, val, 0), vert(api.VertAgg, 0, sum, 1), vert(api.VertTumble, 10, sum, 2), sink(0, 2), vert(api.VertMap, 0, val, 2), vert(api.VertJoin, 0, val, 1, 2), vert(api.VertAgg, 0, sum, 0)), 1)
	for k, c := range []struct {
		v    int
		c    api.Change
		want api.Errno
	}{
		{1, set(1, 0, 0, 7), api.OK},
		{1, set(1, 0, 0, 7), api.OK}, // a time that is no greater is none the less seen
		{1, set(1, 0, 0, 5), api.OK},
		{1, set(1, 0, 0, -1), api.ErrRange},
		{1, set(1, 0, 0, most+1), api.ErrRange},
		{1, set(0, 0, 0, 9), api.ErrForm},
		{1, set(2, 0, 0, -9), api.ErrForm}, // ahead of ErrRange
		{1, set(1, 1, 0, 9), api.ErrForm},
		{1, set(1, 0, -1, 9), api.ErrForm},
		{1, api.Change{Key: 1, Val: 9, Del: true}, api.ErrForm},
		{1, api.Change{Key: 1, Del: true}, api.ErrForm},
		{2, set(5, 0, 0, 3), api.OK},
		{2, set(5, 0, 10, 3), api.ErrForm},
		{2, gone(6, 0, 0), api.ErrNone},
		{3, set(5, 10, 20, 4), api.OK},
		{3, set(5, 11, 20, 4), api.ErrForm},
		{3, gone(5, 0, 10), api.ErrNone},
		{0, set(0, 0, 0, 7), api.ErrNone},
		{0, set(1, 0, 0, 7), api.ErrNone},
		{4, set(1, 0, 0, 7), api.ErrNone}, {5, set(1, 0, 0, 7), api.ErrNone}, {6, set(1, 0, 0, 7), api.ErrNone},
		{7, set(1, 0, 0, 7), api.ErrNone}, // a store of another part
		{-1, set(1, 0, 0, 7), api.ErrNone}, {8, set(1, 0, 0, 7), api.ErrNone}, {math.MaxInt64, set(1, 1, 1, 7), api.ErrNone}, {math.MinInt64, gone(0, 0, 0), api.ErrNone},
	} {
		if err := m.Do(c.v, c.c); err != c.want {
			t.Errorf("%d: %d, want %d", k, err, c.want)
		}
	}
	for v, want := range map[int][]api.Change{
		-1: nil, 0: nil, 1: {set(1, 0, 0, 7)}, 2: {set(5, 0, 0, 3)}, 3: {set(5, 10, 20, 4)}, 4: nil, 5: nil, 6: nil, 7: nil, math.MinInt64: nil,
	} {
		if l := m.List(v); !slices.Equal(l, want) {
			t.Error(v, l)
		}
	}
	if m.Mark() != 7 {
		t.Error(m.Mark())
	}
	m = open(t, lay(source(0)), 0)
	m.Step(0, rec(1, 1, 0))
	if l := m.List(0); !slices.Equal(l, []api.Change{{}}) { // it has seen the time 0
		t.Error(l)
	}
}

func TestNilMachine(t *testing.T) { // P20.4
	for _, m := range []*model.Machine{nil, {}} {
		for _, v := range []int{-1, 0, 1} {
			if got, err := m.Step(v, rec(1, 2, 3)); !same(got, model.Told{}) || err != api.ErrNone {
				t.Error(got, err)
			}
			for _, c := range []api.Change{{}, set(1, 2, 3, 4)} {
				if err := m.Do(v, c); err != api.ErrNone {
					t.Error(err)
				}
			}
			if len(m.List(v)) != 0 || m.Mark() != -1 || len(m.Inputs()) != 0 {
				t.Error(m.List(v), m.Mark(), m.Inputs())
			}
		}
	}
}

// anyTopo is some valid topology.
func anyTopo(rnd *rand.Rand) api.Topo {
	e := func() api.Expr {
		return []api.Expr{val, over, con(2), op(api.OpKey), op(api.OpMod, val, con(3)), op(api.OpAdd, val, con(1))}[rnd.Intn(6)]
	}
	x := lay(source(0))
	for len(x.V) < 1+rnd.Intn(24) {
		y := x
		from := rnd.Intn(len(x.V))
		kind := 1 + rnd.Intn(10)
		v := api.Vertex{Kind: kind, From: []int{from}}
		switch kind {
		case api.VertSource:
			v.From, v.N = nil, rnd.Int63n(8)
		case api.VertSink:
			v.N = rnd.Int63n(8)
		case api.VertJoin:
			v.From, v.E = append(v.From, rnd.Intn(len(x.V))), sum
		case api.VertAgg:
			v.E = sum
		case api.VertTumble, api.VertSession:
			v.E, v.N = sum, 1+rnd.Int63n(9)
		default:
			v.E = e()
		}
		y.V = append(slices.Clone(x.V), v)
		if _, err := topo.Check(y); err == api.OK {
			x = y
		}
	}
	return x
}

func lists(m *model.Machine) [][]api.Change {
	var all [][]api.Change
	for v := -1; v < 25; v++ {
		all = append(all, m.List(v))
	}
	return all
}

func TestReplay(t *testing.T) { // P20.5
	rnd := rand.New(rand.NewSource(1))
	changed := 0
	for range 600 {
		x := anyTopo(rnd)
		part, _ := cut.Of(x, rnd.Intn(cut.Tasks(x)))
		m, twin, follower := open(t, x, part), open(t, x, part), open(t, x, part)
		inputs := m.Inputs()
		time := int64(0)
		for range 25 {
			time += rnd.Int63n(5)
			v, r := inputs[rnd.Intn(len(inputs))], rec(rnd.Int63n(3), rnd.Int63n(6), max(0, time-rnd.Int63n(12)))
			got, err := m.Step(v, r)
			again, err2 := twin.Step(v, r) // the same records have the same results
			if !same(got, again) || err != api.OK || err2 != api.OK || len(got.Verts) != len(got.Changes) {
				t.Fatal(x, got, again, err, err2)
			}
			changed += len(got.Changes)
			for i, c := range got.Changes {
				if err := follower.Do(got.Verts[i], c); err != api.OK {
					t.Fatal(x, got.Verts[i], c, err)
				}
			}
			if !same(lists(m), lists(follower)) || m.Mark() != follower.Mark() {
				t.Fatal(x, lists(m), lists(follower))
			}
		}
		copied := open(t, x, part)
		for v := range x.V {
			for _, c := range m.List(v) {
				if err := copied.Do(v, c); err != api.OK {
					t.Fatal(x, v, c, err)
				}
			}
		}
		if !same(lists(m), lists(copied)) || m.Mark() != copied.Mark() {
			t.Fatal(x, lists(m), lists(copied))
		}
		for range 10 { // all of them go on alike
			v, r := inputs[rnd.Intn(len(inputs))], rec(rnd.Int63n(3), rnd.Int63n(6), time+rnd.Int63n(9)-4)
			if r.Time < 0 {
				continue
			}
			a, _ := m.Step(v, r)
			b, _ := follower.Step(v, r)
			c, _ := copied.Step(v, r)
			if !same(a, b) || !same(a, c) {
				t.Fatal(x, v, r, a, b, c)
			}
		}
	}
	if changed < 1000 {
		t.Error(changed)
	}
}

func TestTheTopologyIsNotKept(t *testing.T) { // R3
	x := lay(source(0), vert(api.VertMap, 0, op(api.OpAdd, val, con(1)), 0), sink(0, 1))
	m := open(t, x, 0)
	x.V[1].E.Kids[1].N = 1000
	x.V[2].From[0] = 0
	x.V[0].Kind = api.VertSink
	step(t, m, 0, rec(1, 2, 3), out(2, rec(1, 3, 3)), 0, set(0, 0, 0, 3))
	m.Inputs()[0] = 9
	if !slices.Equal(m.Inputs(), []int{0}) {
		t.Error(m.Inputs())
	}
}

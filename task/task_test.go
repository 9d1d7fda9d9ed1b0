package task_test

import (
	"fmt"
	"math"
	"math/rand"
	"reflect"
	"slices"
	"testing"

	"tidemill/api"
	"tidemill/chg"
	"tidemill/cut"
	"tidemill/model"
	"tidemill/rec"
	"tidemill/task"
	"tidemill/topo"
	"tidemill/view"
)

const most = api.MaxTime

func con(n int64) api.Expr                 { return api.Expr{Op: api.OpConst, N: n} }
func op(op int, kids ...api.Expr) api.Expr { return api.Expr{Op: op, Kids: kids} }
func r(key, val, time int64) api.Record    { return api.Record{Key: key, Val: val, Time: time} }

var (
	val  = op(api.OpVal)
	sum  = op(api.OpAdd, val, op(api.OpAcc))
	over = op(api.OpDiv, con(100), val)
)

func source(n int64) api.Vertex { return api.Vertex{Kind: api.VertSource, N: n} }
func sink(n int64, from int) api.Vertex {
	return api.Vertex{Kind: api.VertSink, N: n, From: []int{from}}
}
func key(from int) api.Vertex { return vert(api.VertKey, 0, val, from) }
func vert(kind int, n int64, e api.Expr, from ...int) api.Vertex {
	return api.Vertex{Kind: kind, N: n, E: e, From: from}
}

func lay(l ...api.Vertex) api.Topo { return api.Topo{Parts: 2, V: l} }

// simple is a source, a sum and a sink.
func simple() api.Topo { return lay(source(0), vert(api.VertAgg, 0, sum, 0), sink(0, 1)) }

func open(t *testing.T, x api.Topo, n int, told api.Told) *task.Task {
	t.Helper()
	k, err := task.New(x, n, told)
	if k == nil || err != api.OK {
		t.Fatal(n, err)
	}
	return k
}

// log is a view of a log whose records have no Del.
func log(n int, recs ...api.Record) api.LogView {
	return api.LogView{Log: n, Recs: recs, Dels: make([]bool, len(recs))}
}

// changes is a view of a changelog.
func changes(n int, l ...api.Change) api.LogView {
	v := api.LogView{Log: n}
	for _, c := range l {
		recs, dels := chg.Records(c)
		v.Recs, v.Dels = append(v.Recs, recs...), append(v.Dels, dels...)
	}
	return v
}

func told(l ...api.LogView) api.Told { return api.Told{Logs: l} }

func set(key, from, to, val int64) api.Change {
	return api.Change{Key: key, From: from, To: to, Val: val}
}

func same(a, b any) bool { return fmt.Sprint(a) == fmt.Sprint(b) }

// take takes a record and checks what is returned.
func take(t *testing.T, k *task.Task, x api.Told, i int, want bool, err api.Errno) {
	t.Helper()
	if ok, e := k.Take(x, i); ok != want || e != err {
		t.Errorf("Take %d: %v, %d; want %v, %d", i, ok, e, want, err)
	}
}

func TestNewErrors(t *testing.T) { // P21.1
	x := simple()
	for _, n := range []int{math.MinInt64, -1, 2, 3, math.MaxInt64} {
		if k, err := task.New(x, n, api.Told{}); k != nil || err != api.ErrArg {
			t.Error(n, err)
		}
	}
	for _, bad := range []api.Topo{{}, lay(), lay(sink(0, 0)), lay(source(0), source(0)), lay(source(8)), lay(api.Vertex{})} {
		_, want := topo.Check(bad)
		for _, n := range []int{0, -1} {
			if k, err := task.New(bad, n, api.Told{}); k != nil || err != want {
				t.Error(n, err, want)
			}
		}
	}
	// a part that reads eight sources, and one that reads a key beside them
	l := []api.Vertex{}
	for n := range int64(8) {
		l = append(l, source(n))
	}
	l = append(l, vert(api.VertAgg, 0, sum, 0))
	for v := 1; v < 8; v++ {
		l = append(l, vert(api.VertJoin, 0, sum, v, 8))
	}
	if k := open(t, lay(l...), 0, api.Told{}); !slices.Equal(k.Inputs(), []int{0, 1, 2, 3, 4, 5, 6, 7}) {
		t.Error(k.Inputs())
	}
	l = append(l, key(0), vert(api.VertJoin, 0, sum, 16, 8))
	bad := told(api.LogView{Log: cut.Log(lay(l...), 1, 0, 0), Recs: []api.Record{{}}})
	for n, want := range []api.Errno{api.ErrRange, api.ErrRange, api.ErrArg} {
		if k, err := task.New(lay(l...), n, bad); k != nil || err != want {
			t.Error(n, err)
		}
	}
}

func TestRestore(t *testing.T) { // P21.1
	// parts: 0 source, 1 key; 2 agg, 3 tumble, 4 map, 5 key, 6 sink, all of the log of 1; 7 sink of the log of 1
	x := lay(source(0), key(0), vert(api.VertAgg, 0, sum, 1), vert(api.VertTumble, 10, sum, 2), vert(api.VertMap, 0, val, 3), key(4), sink(0, 4), sink(1, 1))
	if parts, _ := cut.Parts(x); !slices.Equal(parts, []int{0, 0, 1, 1, 1, 1, 1, 2}) {
		t.Fatal(parts)
	}
	at := func(v int) int { return cut.Log(x, 1, v, 1) } // of partition 1
	odd := func(n int) api.LogView { return log(n, r(1, 2, 3)) }
	mark, table, window := changes(at(1), set(1, 0, 0, 4), set(1, 0, 0, 7)), changes(at(2), set(5, 0, 0, 6)), changes(at(3), set(5, 10, 20, 8))
	all := told(mark, table, window)
	k := open(t, x, 3, all)
	for v, want := range [][]api.Change{nil, {set(1, 0, 0, 7)}, {set(5, 0, 0, 6)}, {set(5, 10, 20, 8)}, nil, nil, nil, nil} {
		if l := k.List(v); !slices.Equal(l, want) {
			t.Error(v, l)
		}
	}
	if !slices.Equal(k.Inputs(), []int{1}) || !slices.Equal(k.Offs(), []int{0}) || len(k.Entries()) != 0 {
		t.Error(k.Inputs(), k.Offs(), k.Entries())
	}
	for i, c := range []struct {
		x    api.Told
		n    int
		want api.Errno
	}{
		{told(odd(at(0))), 3, api.OK},                                    // of another part
		{told(odd(at(5))), 3, api.OK},                                    // a VertKey that is no input
		{told(odd(at(7))), 3, api.OK},                                    // of another part
		{told(odd(cut.Log(x, 1, 2, 0))), 3, api.OK},                      // another partition
		{told(odd(cut.Log(x, 0, 2, 1)), odd(cut.Log(x, 2, 2, 1))), 3, 0}, // other kinds of logs
		{told(odd(at(1))), 3, api.ErrForm},
		{told(odd(at(2))), 3, api.ErrForm},
		{told(odd(at(3))), 3, api.ErrForm},
		{told(odd(at(4))), 3, api.ErrForm},
		{told(odd(at(6))), 3, api.ErrForm},
		{told(odd(at(2))), 2, api.OK},
		{told(odd(at(1))), 1, api.OK}, // part 0 has the key, but does not read it
		{told(odd(at(1))), 5, api.ErrForm},
		{told(changes(at(4), set(1, 0, 0, 1))), 3, api.ErrNone}, // a map has no store
		{told(changes(at(6), set(1, 0, 0, 1))), 3, api.ErrNone},
		{told(api.LogView{Log: at(2), Recs: []api.Record{{}, {}}, Dels: []bool{false}}), 3, api.ErrForm},
		{told(changes(at(2), set(1, 0, 0, 1)), log(at(2), r(1, 2, 3))), 3, api.OK}, // the first view of a log
		{told(changes(at(2), api.Change{Key: 1, Del: true})), 3, api.ErrNone},
		{told(changes(at(3), set(1, 11, 20, 1))), 3, api.ErrForm},
		{told(changes(at(1), set(0, 0, 0, 1), set(2, 5, 6, -1), set(77, 0, 0, 1))), 3, api.OK}, // of other parts: skipped
		{told(changes(at(1), set(1, 0, 0, -1))), 3, api.ErrRange},
		{told(changes(at(1), set(1, 0, 0, 1), set(1, 5, 0, 1))), 3, api.ErrForm},
		{told(changes(at(1), set(1, 0, 0, -1)), odd(at(2))), 3, api.ErrRange}, // the first error, by vertices
		{told(odd(at(2)), changes(at(1), set(1, 0, 0, -1))), 3, api.ErrRange},
		{told(changes(at(2), api.Change{Key: 1, Del: true}), odd(at(3))), 3, api.ErrNone},
		{told(api.LogView{Log: at(2), Recs: []api.Record{r(1, 0, 0), r(1, 0, 0), r(1, 0, 0)}, Dels: []bool{false, true, false}}), 3, api.ErrForm}, // before any of them is done
	} {
		k, err := task.New(x, c.n, c.x)
		if err != c.want || (k != nil) != (err == api.OK) {
			t.Errorf("%d: %d, want %d", i, err, c.want)
		}
	}
	if k := open(t, x, 3, told(changes(at(1), set(1, 0, 0, 3), set(0, 0, 0, 9), set(2, 0, 0, 9)))); !slices.Equal(k.List(1), []api.Change{set(1, 0, 0, 3)}) {
		t.Error(k.List(1))
	}
}

func TestWhatWasCommitted(t *testing.T) { // P21.1: the epoch, the transaction and the offsets
	x := lay(source(0), source(1), vert(api.VertAgg, 0, sum, 0), vert(api.VertJoin, 0, sum, 1, 2), sink(0, 3))
	for _, c := range []struct{ was, want []int }{{nil, []int{0, 0}}, {[]int{3}, []int{3, 0}}, {[]int{3, 4}, []int{3, 4}}, {[]int{3, 4, 5}, []int{3, 4}}, {[]int{-1, -7}, []int{-1, -7}}} {
		y := api.Told{Tasks: []api.TaskView{{Task: 0, Epoch: 9}, {Task: 1, Epoch: 5, Txns: 6, Offs: c.was, Order: []int{1}, Open: 3}}}
		k := open(t, x, 1, y)
		if !slices.Equal(k.Offs(), c.want) || len(k.Entries()) != 0 {
			t.Error(c, k.Offs())
		}
		k.Offs()[0] = 99 // R3
		if !slices.Equal(k.Offs(), c.want) {
			t.Error(c, k.Offs())
		}
	}
	y := api.Told{Tasks: []api.TaskView{{Task: 1, Epoch: 5, Txns: 6, Offs: []int{0, 1}}}, Logs: []api.LogView{log(1, r(1, 2, 3)), log(3, r(0, 0, 0), r(4, 5, 6))}}
	k := open(t, x, 1, y)
	take(t, k, y, 1, true, api.OK)
	for _, e := range k.Entries() {
		if e.Task != 1 || e.Epoch != 5 || e.Txn != 6 {
			t.Error(e)
		}
	}
	k.Done()
	take(t, k, y, 0, true, api.OK)
	for _, e := range k.Entries() {
		if e.Task != 1 || e.Epoch != 5 || e.Txn != 7 {
			t.Error(e)
		}
	}
}

func data(task, log int, x api.Record) api.Entry {
	return api.Entry{Kind: api.EntryData, Task: task, Log: log, Rec: x}
}

func TestTheExample(t *testing.T) { // P21.2, P21.3
	x := simple()
	in, out, marks, sums := cut.Log(x, 0, 0, 1), cut.Log(x, 0, 2, 1), cut.Log(x, 1, 0, 1), cut.Log(x, 1, 1, 1)
	y := told(log(in, r(1, 5, 7), r(1, 6, 3)))
	k := open(t, x, 1, y)
	take(t, k, y, 0, true, api.OK)
	first := []api.Entry{
		data(1, out, r(1, 5, 7)),
		data(1, marks, r(0, 0, 0)), data(1, marks, r(0, 7, 0)),
		data(1, sums, r(1, 0, 0)), data(1, sums, r(1, 5, 0)),
	}
	commit := api.Entry{Kind: api.EntryCommit, Task: 1, Offs: []int{1}, Order: []int{0}}
	if got := k.Entries(); !same(got, append(slices.Clone(first), commit)) {
		t.Errorf("%v", got)
	}
	take(t, k, y, 0, true, api.OK)
	commit.Offs, commit.Order = []int{2}, []int{0, 0}
	second := []api.Entry{data(1, out, r(1, 11, 3)), data(1, sums, r(1, 0, 0)), data(1, sums, r(1, 11, 0))}
	want := append(slices.Concat(first, second), commit)
	for range 2 {
		if got := k.Entries(); !same(got, want) {
			t.Errorf("%v", got)
		}
	}
	take(t, k, y, 0, false, api.OK)
	if got := k.Entries(); !same(got, want) || !slices.Equal(k.Offs(), []int{2}) {
		t.Errorf("%v", got)
	}
	k.Done()
	if len(k.Entries()) != 0 || !slices.Equal(k.Offs(), []int{2}) || !slices.Equal(k.List(1), []api.Change{set(1, 0, 0, 11)}) {
		t.Error(k.Entries(), k.Offs(), k.List(1))
	}
	take(t, k, y, 0, false, api.OK)
	if len(k.Entries()) != 0 {
		t.Error(k.Entries())
	}
}

func TestEntriesInOrder(t *testing.T) { // P21.2
	x := lay(source(0), key(0), vert(api.VertTumble, 10, sum, 0), sink(0, 2), vert(api.VertMap, 0, over, 0), sink(1, 4), sink(2, 0))
	at := func(kind, v, p int) int { return cut.Log(x, kind, v, p) }
	y := told(log(at(0, 0, 1), r(1, 0, 25), r(3, 4, 30), r(5, 7, 9), r(-1, -9, 31), r(1, 0, 55)))
	k := open(t, x, 1, y)
	gone := func(key int64) api.Entry {
		x := data(1, at(1, 2, 1), r(key, 0, 0))
		x.Del = true
		return x
	}
	for i, want := range [][]api.Entry{
		{
			data(1, at(0, 1, 0), r(0, 0, 25)), data(1, at(0, 3, 1), r(1, 0, 20)), data(1, at(0, 6, 1), r(1, 0, 25)),
			data(1, at(1, 0, 1), r(0, 0, 0)), data(1, at(1, 0, 1), r(0, 25, 0)),
			data(1, at(1, 2, 1), r(1, 30, 20)), data(1, at(1, 2, 1), r(1, 0, 0)),
			data(1, at(2, 4, 1), r(1, 0, 25)),
		},
		{
			data(1, at(0, 1, 0), r(4, 4, 30)), data(1, at(0, 3, 1), r(3, 4, 30)), data(1, at(0, 5, 1), r(3, 25, 30)), data(1, at(0, 6, 1), r(3, 4, 30)),
			data(1, at(1, 0, 1), r(0, 0, 0)), data(1, at(1, 0, 1), r(0, 30, 0)),
			data(1, at(1, 2, 1), r(3, 40, 30)), data(1, at(1, 2, 1), r(3, 4, 0)),
		},
		{ // a key of the other partition; late for the windows
			data(1, at(0, 1, 1), r(7, 7, 9)), data(1, at(0, 5, 1), r(5, 14, 9)), data(1, at(0, 6, 1), r(5, 7, 9)),
			data(1, at(2, 2, 1), r(5, 7, 9)),
		},
		{
			data(1, at(0, 1, 1), r(-9, -9, 31)), data(1, at(0, 3, 1), r(-1, -9, 30)), data(1, at(0, 5, 1), r(-1, -11, 31)), data(1, at(0, 6, 1), r(-1, -9, 31)),
			data(1, at(1, 0, 1), r(0, 0, 0)), data(1, at(1, 0, 1), r(0, 31, 0)),
			data(1, at(1, 2, 1), r(-1, 40, 30)), data(1, at(1, 2, 1), r(-1, -9, 0)),
		},
		{ // windows expire
			data(1, at(0, 1, 0), r(0, 0, 55)), data(1, at(0, 3, 1), r(1, 0, 50)), data(1, at(0, 6, 1), r(1, 0, 55)),
			data(1, at(1, 0, 1), r(0, 0, 0)), data(1, at(1, 0, 1), r(0, 55, 0)),
			data(1, at(1, 2, 1), r(1, 60, 50)), data(1, at(1, 2, 1), r(1, 0, 0)),
			data(1, at(1, 2, 1), r(1, 30, 20)), gone(1),
			data(1, at(1, 2, 1), r(-1, 40, 30)), gone(-1),
			data(1, at(1, 2, 1), r(3, 40, 30)), gone(3),
			data(1, at(2, 4, 1), r(1, 0, 55)),
		},
	} {
		take(t, k, y, 0, true, api.OK)
		got := k.Entries()
		for j := range want {
			want[j].Txn = i
		}
		want = append(want, api.Entry{Kind: api.EntryCommit, Task: 1, Txn: i, Offs: []int{i + 1}, Order: []int{0}})
		if !same(got, want) {
			t.Errorf("%d:\n%v\nwant\n%v", i, got, want)
		}
		k.Done()
	}
}

func TestPartitions(t *testing.T) { // P21.2: a sink's log is of the task's partition, a key's of that of the record's key
	x := lay(source(0), key(0), sink(0, 0), vert(api.VertMap, 0, over, 0))
	at := func(kind, v, p int) int { return cut.Log(x, kind, v, p) }
	y := told(log(at(0, 0, 1), r(2, 0, 7)), log(at(0, 0, 0), r(3, 1, 7)))
	for p, want := range [][]api.Entry{
		{data(0, at(0, 1, 1), r(1, 1, 7)), data(0, at(0, 2, 0), r(3, 1, 7)), data(0, at(1, 0, 0), r(0, 0, 0)), data(0, at(1, 0, 0), r(0, 7, 0))},
		{data(1, at(0, 1, 0), r(0, 0, 7)), data(1, at(0, 2, 1), r(2, 0, 7)), data(1, at(1, 0, 1), r(0, 0, 0)), data(1, at(1, 0, 1), r(0, 7, 0)), data(1, at(2, 3, 1), r(2, 0, 7))},
	} {
		k := open(t, x, p, y)
		take(t, k, y, 0, true, api.OK)
		want = append(want, api.Entry{Kind: api.EntryCommit, Task: p, Offs: []int{1}, Order: []int{0}})
		if got := k.Entries(); !same(got, want) {
			t.Errorf("%d:\n%v\nwant\n%v", p, got, want)
		}
	}
}

func TestTakeErrors(t *testing.T) { // P21.2
	x := lay(source(0), source(1), vert(api.VertAgg, 0, sum, 0), vert(api.VertJoin, 0, sum, 1, 2))
	in := func(v int) int { return cut.Log(x, 0, v, 0) }
	var many []api.Record
	for i := range int64(300) {
		many = append(many, r(1, 1, i))
	}
	y := told(log(in(0), many...), log(in(1), many[:2]...))
	k := open(t, x, 0, y)
	for _, i := range []int{math.MinInt64, -1, 2, 3, math.MaxInt64} {
		take(t, k, y, i, false, api.ErrArg)
	}
	take(t, k, api.Told{}, 0, false, api.OK)
	take(t, k, told(log(in(0)+1, many...)), 0, false, api.OK) // of the other partition
	take(t, k, y, 1, true, api.OK)
	for range 255 {
		take(t, k, y, 0, true, api.OK)
	}
	entries := k.Entries()
	take(t, k, y, 0, false, api.ErrFull)
	take(t, k, y, 1, false, api.ErrFull)
	take(t, k, y, 2, false, api.ErrArg)                   // ahead of ErrFull
	take(t, k, told(log(in(1), r(1, 1, 1))), 1, false, 0) // likewise, if there is no more
	if !same(entries, k.Entries()) || !slices.Equal(k.Offs(), []int{255, 1}) {
		t.Error(k.Offs())
	}
	last := entries[len(entries)-1]
	if last.Kind != api.EntryCommit || len(last.Order) != 256 || last.Order[0] != 1 || last.Order[1] != 0 || !slices.Equal(last.Offs, []int{255, 1}) {
		t.Error(last)
	}
	k.Done()
	take(t, k, y, 0, true, api.OK)
	take(t, k, y, 1, true, api.OK)
	take(t, k, y, 1, false, api.OK)
	entries = k.Entries()
	if last := entries[len(entries)-1]; !slices.Equal(last.Order, []int{0, 1}) || !slices.Equal(last.Offs, []int{256, 2}) || last.Txn != 1 {
		t.Error(last)
	}
	for _, off := range []int{-1, math.MinInt64, 2, 3, math.MaxInt64} { // there is no record at such an offset
		z := told(log(in(0), many[:2]...))
		z.Tasks = []api.TaskView{{Task: 0, Offs: []int{off}}}
		take(t, open(t, x, 0, z), z, 0, false, api.OK)
	}
}

func TestBadTimes(t *testing.T) { // P21.2: what the machine tells is kept, whatever it is
	x := simple()
	y := told(log(cut.Log(x, 0, 0, 0), r(1, 2, -1)))
	k := open(t, x, 0, y)
	take(t, k, y, 0, true, api.OK)
	want := []api.Entry{data(0, cut.Log(x, 2, 0, 0), r(1, 2, -1)), {Kind: api.EntryCommit, Offs: []int{1}, Order: []int{0}}}
	if got := k.Entries(); !same(got, want) {
		t.Error(got)
	}
}

func TestDone(t *testing.T) { // P21.3
	x := simple()
	y := told(log(cut.Log(x, 0, 0, 0), r(1, 2, 3)))
	k := open(t, x, 0, y)
	k.Done() // it counts, whether anything was taken or not
	take(t, k, y, 0, true, api.OK)
	if l := k.Entries(); l[len(l)-1].Txn != 1 || l[0].Txn != 1 {
		t.Error(l)
	}
}

func TestNilTask(t *testing.T) { // P21.3
	for _, k := range []*task.Task{nil, {}} {
		for _, i := range []int{-1, 0, 1} {
			take(t, k, told(log(0, r(1, 2, 3))), i, false, api.ErrArg)
		}
		k.Done()
		if len(k.Entries()) != 0 || len(k.Offs()) != 0 || len(k.Inputs()) != 0 || len(k.List(0)) != 0 {
			t.Error(k.Entries())
		}
	}
}

func TestNothingIsShared(t *testing.T) { // R3
	x := lay(source(0), vert(api.VertMap, 0, op(api.OpAdd, val, con(1)), 0), sink(0, 1))
	y := told(log(cut.Log(x, 0, 0, 0), r(1, 2, 3)))
	y.Tasks = []api.TaskView{{Task: 0, Offs: []int{0}}}
	k := open(t, x, 0, y)
	x.V[1].E.Kids[1].N, x.V[2].From[0], y.Tasks[0].Offs[0] = 1000, 0, 1
	take(t, k, y, 0, true, api.OK)
	l := k.Entries()
	if l[0].Rec != r(1, 3, 3) {
		t.Error(l)
	}
	kept := fmt.Sprint(l)
	l[0].Rec.Key = 99
	l[len(l)-1].Offs[0], l[len(l)-1].Order[0] = 99, 99
	k.Inputs()[0] = 99
	if fmt.Sprint(k.Entries()) != kept || !slices.Equal(k.Inputs(), []int{0}) {
		t.Error(k.Entries())
	}
}

// anyTopo is some valid topology.
func anyTopo(rnd *rand.Rand) api.Topo {
	x := lay(source(0))
	x.Parts = 1 + rnd.Intn(3)
	for len(x.V) < 1+rnd.Intn(14) {
		y := x
		from := rnd.Intn(len(x.V))
		v := vert(1+rnd.Intn(10), 0, []api.Expr{val, over, con(2), op(api.OpKey)}[rnd.Intn(4)], from)
		switch v.Kind {
		case api.VertSource:
			v = source(rnd.Int63n(8))
		case api.VertSink:
			v = sink(rnd.Int63n(8), from)
		case api.VertJoin:
			v.From, v.E = append(v.From, rnd.Intn(len(x.V))), sum
		case api.VertAgg:
			v.E = sum
		case api.VertTumble, api.VertSession:
			v.E, v.N = sum, 1+rnd.Int63n(9)
		}
		y.V = append(slices.Clone(x.V), v)
		if _, err := topo.Check(y); err == api.OK {
			x = y
		}
	}
	return x
}

func lists(x api.Topo, k *task.Task) []any {
	var all []any
	for v := range x.V {
		all = append(all, k.List(v))
	}
	return append(all, k.Offs(), k.Inputs())
}

func TestCommitAndRestore(t *testing.T) { // P21.4: of random topologies, step by step, while tasks are now and then created again
	rnd := rand.New(rand.NewSource(1))
	commits := 0
	for range 300 {
		x := anyTopo(rnd)
		n := cut.Tasks(x)
		var entries []api.Entry
		for v, y := range x.V {
			for range 10 {
				z := r(rnd.Int63n(4)-1, rnd.Int63n(5), rnd.Int63n(40))
				if y.Kind == api.VertSource {
					entries = append(entries, api.Entry{Kind: api.EntryInput, Log: cut.Log(x, 0, v, cut.Part(x, z.Key)), Rec: z})
				}
			}
		}
		tasks := make([]*task.Task, n)
		for range 30 {
			i := rnd.Intn(n)
			y := view.Read(entries)
			if tasks[i] == nil {
				tasks[i] = open(t, x, i, y)
			}
			k := tasks[i]
			for range rnd.Intn(4) {
				if ins := k.Inputs(); len(ins) > 0 {
					if _, err := k.Take(y, rnd.Intn(len(ins))); err != api.OK {
						t.Fatal(err)
					}
				}
			}
			l := k.Entries()
			if len(l) == 0 {
				continue
			}
			commits++
			for _, e := range l {
				if !rec.May(e) {
					t.Fatal(e)
				}
			}
			entries = append(entries, l...)
			k.Done()
			y = view.Read(entries)
			if !slices.Equal(view.Task(y, i).Offs, k.Offs()) || view.Task(y, i).Open != 0 {
				t.Fatal(x, view.Task(y, i), k.Offs())
			}
			again := open(t, x, i, y)
			if !same(lists(x, again), lists(x, k)) {
				t.Fatal(x, i, lists(x, again), lists(x, k))
			}
			if rnd.Intn(2) == 0 {
				tasks[i] = again
			}
		}
	}
	if commits < 1000 {
		t.Error(commits)
	}
}

func TestSinksHaveWhatMachinesReturn(t *testing.T) { // P5 of the whole: what was consumed took effect once
	x := lay(source(0), vert(api.VertAgg, 0, sum, 0), sink(0, 1))
	entries := []api.Entry{}
	for i := range int64(9) {
		entries = append(entries, api.Entry{Kind: api.EntryInput, Log: cut.Log(x, 0, 0, 0), Rec: r(2*(i%3), i, i)})
	}
	for range 9 {
		y := view.Read(entries)
		k := open(t, x, 0, y)
		take(t, k, y, 0, true, api.OK)
		entries = append(entries, k.Entries()...)
	}
	m, _ := model.New(x, 0)
	var want []api.Record
	for i := range int64(9) {
		z, _ := m.Step(0, r(2*(i%3), i, i))
		want = append(want, z.Outs[0].Rec)
	}
	if got := view.Log(view.Read(entries), cut.Log(x, 0, 2, 0)).Recs; !reflect.DeepEqual(got, want) {
		t.Error(got, want)
	}
}

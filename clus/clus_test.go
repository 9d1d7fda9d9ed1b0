package clus_test

import (
	"fmt"
	"math"
	"math/rand"
	"slices"
	"testing"

	"tidemill/api"
	"tidemill/asgn"
	"tidemill/clus"
	"tidemill/cut"
	"tidemill/model"
	"tidemill/rec"
	"tidemill/slog"
	"tidemill/topo"
	"tidemill/view"
)

const most = api.MaxTime

func con(n int64) api.Expr                 { return api.Expr{Op: api.OpConst, N: n} }
func op(op int, kids ...api.Expr) api.Expr { return api.Expr{Op: op, Kids: kids} }
func r(key, val, time int64) api.Record    { return api.Record{Key: key, Val: val, Time: time} }

var (
	val  = op(api.OpVal)
	sum  = op(api.OpAdd, val, op(api.OpAcc))
	over = op(api.OpDiv, con(100), val)
)

func source(n int64) api.Vertex { return api.Vertex{Kind: api.VertSource, N: n} }
func sink(n int64, from int) api.Vertex {
	return api.Vertex{Kind: api.VertSink, N: n, From: []int{from}}
}
func vert(kind int, n int64, e api.Expr, from ...int) api.Vertex {
	return api.Vertex{Kind: kind, N: n, E: e, From: from}
}

func lay(parts int, l ...api.Vertex) api.Topo { return api.Topo{Parts: parts, V: l} }

// simple is a source, a sum and a sink.
func simple(parts int) api.Topo {
	return lay(parts, source(0), vert(api.VertAgg, 0, sum, 0), sink(0, 1))
}

var (
	all  = []bool{true, true, true}
	none = []bool{}
)

// The events.
func input(v int, x api.Record) api.Happen {
	return api.Happen{Kind: api.EventInput, A: v, Rec: x, Reach: all}
}
func start(w, n int) api.Happen {
	return api.Happen{Kind: api.EventStart, A: w, B: n, Reach: all}
}
func work(w, n, in, many, stop int) api.Happen {
	return api.Happen{Kind: api.EventWork, A: w, B: n, C: in, N: many, Stop: stop, Reach: all}
}
func die(w int) api.Happen { return api.Happen{Kind: api.EventDie, A: w} }
func crash(node, keep, turn int) api.Happen {
	return api.Happen{Kind: api.EventCrash, A: node, N: keep, B: turn}
}
func balance(bits int) api.Happen {
	return api.Happen{Kind: api.EventBalance, N: bits, Reach: all}
}

var reopen = api.Happen{Kind: api.EventOpen, Reach: all}

// cutOff is an event that reaches no node.
func cutOff(e api.Happen) api.Happen {
	e.Reach = none
	return e
}

func open(t *testing.T, x api.Topo, workers int) *clus.Cluster {
	t.Helper()
	c, err := clus.New(x, workers, 3, 1<<20)
	if c == nil || err != api.OK {
		t.Fatal(err)
	}
	do(t, c, reopen, 0, api.OK)
	return c
}

// do processes an event and checks what is returned.
func do(t *testing.T, c *clus.Cluster, e api.Happen, want int, err api.Errno) {
	t.Helper()
	if n, got := c.Do(e); n != want || got != err {
		t.Errorf("%v: %d, %d; want %d, %d", e, n, got, want, err)
	}
}

// holds checks who holds and who owns a task.
func holds(t *testing.T, c *clus.Cluster, n, owner int, workers ...int) {
	t.Helper()
	for w := -1; w < 17; w++ {
		if c.Holds(w, n) != slices.Contains(workers, w) {
			t.Errorf("worker %d, task %d: %v", w, n, c.Holds(w, n))
		}
	}
	if c.Owner(n) != owner {
		t.Errorf("the owner of task %d: %d", n, c.Owner(n))
	}
}

// vals are the values of a partition of the log of a vertex.
func vals(x api.Topo, c *clus.Cluster, kind, v, p int) []int64 {
	var l []int64
	for _, y := range view.Log(c.Told(), cut.Log(x, kind, v, p)).Recs {
		l = append(l, y.Val)
	}
	return l
}

func same(a, b any) bool { return fmt.Sprint(a) == fmt.Sprint(b) }

func TestNew(t *testing.T) { // P23.1
	x := simple(1)
	for _, c := range []struct {
		x                    api.Topo
		workers, nodes, room int
		want                 api.Errno
	}{
		{x, 1, 1, 0, api.OK}, {x, 16, 7, 1 << 20, api.OK}, {x, 3, 3, 1000, api.OK},
		{x, 0, 3, 1000, api.ErrArg}, {x, 17, 3, 1000, api.ErrArg}, {x, -1, 3, 1000, api.ErrArg}, {x, math.MaxInt64, 3, 1000, api.ErrArg}, {x, math.MinInt64, 3, 1000, api.ErrArg},
		{x, 3, 2, 1000, api.ErrArg}, {x, 3, 0, 1000, api.ErrArg}, {x, 3, 9, 1000, api.ErrArg}, {x, 3, 3, -1, api.ErrArg}, {x, 3, 3, 1<<20 + 1, api.ErrArg},
		{lay(0, source(0)), 0, 0, -1, api.ErrRange}, {lay(1, source(0), source(0)), 0, 0, -1, api.ErrTaken}, {lay(1, source(8)), 0, 3, 9, api.ErrForm}, {api.Topo{}, 3, 3, 9, api.ErrRange},
	} {
		got, err := clus.New(c.x, c.workers, c.nodes, c.room)
		if err != c.want || (got != nil) != (err == api.OK) {
			t.Errorf("%v: %d", c, err)
		}
		if got == nil {
			continue
		}
		if len(got.Entries()) != 0 || !same(got.Told(), api.Told{}) {
			t.Error(got.Entries(), got.Told())
		}
		holds(t, got, 0, -1)
		do(t, got, input(0, r(1, 2, 3)), 0, api.ErrDown) // the log isn't open
		do(t, got, start(0, 0), 0, api.ErrDown)
		do(t, got, work(0, 0, 0, 1, -1), 0, api.ErrNone)
	}
}

func TestTheExample(t *testing.T) { // the chapter's example
	x := simple(1)
	c := open(t, x, 1)
	do(t, c, input(0, r(1, 5, 1)), 0, api.OK)
	do(t, c, input(0, r(1, 6, 2)), 0, api.OK)
	do(t, c, start(0, 0), 0, api.OK)
	holds(t, c, 0, 0, 0)
	do(t, c, work(0, 0, 0, 9, -1), 2, api.OK)
	if l := vals(x, c, 0, 2, 0); !slices.Equal(l, []int64{5, 11}) {
		t.Error(l)
	}
	do(t, c, work(0, 0, 0, 9, -1), 0, api.OK)
	holds(t, c, 0, 0, 0)
	want := api.TaskView{Task: 0, Epoch: 1, Txns: 1, Offs: []int{2}, Order: []int{0, 0}}
	if got := view.Task(c.Told(), 0); !same(got, want) {
		t.Error(got)
	}
	kinds := []int{}
	for _, e := range c.Entries() {
		kinds = append(kinds, e.Kind)
	}
	if !slices.Equal(kinds, []int{1, 1, 5, 2, 2, 2, 2, 2, 2, 2, 2, 2, 2, 3}) {
		t.Error(kinds)
	}
	if !same(c.Told(), view.Read(c.Entries())) {
		t.Error(c.Told())
	}
	do(t, c, input(0, r(1, 1, 3)), 0, api.OK) // that there was nothing to do did no harm
	do(t, c, work(0, 0, 0, 9, -1), 1, api.OK)
	if l := vals(x, c, 0, 2, 0); !slices.Equal(l, []int64{5, 11, 12}) {
		t.Error(l)
	}
}

func TestInput(t *testing.T) { // P23.2: EventInput
	x := lay(3, vert(api.VertSource, 7, api.Expr{}), source(2), sink(0, 1))
	c := open(t, x, 1)
	for _, v := range []int{math.MinInt64, -1, 2, 3, math.MaxInt64} {
		do(t, c, input(v, r(1, 2, 3)), 0, api.ErrArg)
		do(t, c, input(v, r(1, 2, -3)), 0, api.ErrArg)
	}
	for _, time := range []int64{-1, most + 1} { // the error of rec.Entry
		do(t, c, input(0, r(1, 2, time)), 0, api.ErrArg)
		do(t, c, cutOff(input(0, r(1, 2, time))), 0, api.ErrArg)
	}
	for i, y := range []api.Record{r(-1, 4, most), r(3, 5, 0), r(4, 6, 1)} {
		do(t, c, input(i%2, y), 0, api.OK)
	}
	want := []api.Entry{
		{Kind: api.EntryInput, Log: cut.Log(x, 0, 0, 2), Rec: r(-1, 4, most)},
		{Kind: api.EntryInput, Log: cut.Log(x, 0, 1, 0), Rec: r(3, 5, 0)},
		{Kind: api.EntryInput, Log: cut.Log(x, 0, 0, 1), Rec: r(4, 6, 1)},
	}
	if got := c.Entries(); !same(got, want) {
		t.Error(got)
	}
	do(t, c, cutOff(input(0, r(1, 2, 3))), 0, api.ErrDown)
	do(t, c, input(0, r(1, 2, 3)), 0, api.ErrDown) // the log isn't open any more
	if got := c.Entries(); !same(got, want) {
		t.Error(got)
	}
	do(t, c, reopen, 0, api.OK)
	do(t, c, input(0, r(1, 2, 3)), 0, api.OK)
	if len(c.Entries()) != 4 {
		t.Error(c.Entries())
	}
}

func TestOpen(t *testing.T) { // P23.2: EventOpen
	c, _ := clus.New(simple(1), 1, 3, 1000)
	for _, x := range []struct {
		reach []bool
		want  api.Errno
	}{{nil, api.ErrDown}, {[]bool{true}, api.ErrDown}, {[]bool{true, false, true}, api.OK}, {[]bool{false, true, false}, api.ErrDown}, {all, api.OK}} {
		do(t, c, api.Happen{Kind: api.EventOpen, Reach: x.reach}, 0, x.want)
		_, err := c.Do(input(0, r(1, 2, 3)))
		if err != x.want {
			t.Error(x.reach, err)
		}
	}
}

func TestStart(t *testing.T) { // P23.2: EventStart
	x := simple(2)
	c := open(t, x, 2)
	for _, e := range []api.Happen{start(-1, 0), start(2, 0), start(0, -1), start(0, 2), start(math.MaxInt64, 0), start(0, math.MinInt64)} {
		do(t, c, e, 0, api.ErrArg)
	}
	if len(c.Entries()) != 0 {
		t.Error(c.Entries())
	}
	do(t, c, start(0, 1), 0, api.OK)
	holds(t, c, 0, -1)
	holds(t, c, 1, 0, 0)
	do(t, c, start(1, 1), 0, api.OK) // the other one doesn't know yet
	holds(t, c, 1, 1, 0, 1)
	do(t, c, start(1, 1), 0, api.OK)
	holds(t, c, 1, 1, 0, 1)
	do(t, c, start(0, 0), 0, api.OK)
	holds(t, c, 0, 0, 0)
	var got [][3]int
	for _, e := range c.Entries() {
		got = append(got, [3]int{e.Kind, e.Task, e.Epoch})
	}
	if want := [][3]int{{5, 1, 1}, {5, 1, 2}, {5, 1, 3}, {5, 0, 1}}; !slices.Equal(got, want) {
		t.Error(got)
	}
	do(t, c, cutOff(start(1, 1)), 0, api.ErrDown) // it does not hold the task any more, but it owns it
	holds(t, c, 1, 1, 0)
	do(t, c, start(0, 1), 0, api.ErrDown)
	holds(t, c, 1, 1)
	holds(t, c, 0, 0, 0)
	do(t, c, start(0, 7), 0, api.ErrArg)
	holds(t, c, 0, 0, 0)
}

// large has a part, the first one, that has too many inputs for a task, and another one.
func large() api.Topo {
	var l []api.Vertex
	for n := range int64(7) {
		l = append(l, source(n))
	}
	l = append(l, vert(api.VertAgg, 0, sum, 0))
	for v := 1; v < 7; v++ {
		l = append(l, vert(api.VertJoin, 0, sum, v, 7))
	}
	for range 2 {
		l = append(l, vert(api.VertKey, 0, val, 0), vert(api.VertJoin, 0, sum, len(l), 7))
	}
	return lay(1, append(l, source(7))...)
}

func TestStartOfWhatIsTooLarge(t *testing.T) { // P23.2: the error of task.New
	c := open(t, large(), 1)
	do(t, c, start(0, 0), 0, api.ErrRange)
	holds(t, c, 0, -1)
	if len(c.Entries()) != 1 { // the fence is there all the same
		t.Error(c.Entries())
	}
	do(t, c, start(0, 0), 0, api.ErrRange)
	if l := c.Entries(); len(l) != 2 || l[1].Epoch != 2 {
		t.Error(l)
	}
	do(t, c, balance(1), 1, api.ErrRange)
	holds(t, c, 0, -1)
	holds(t, c, 1, 0, 0)
}

func TestWorkErrors(t *testing.T) { // P23.2: EventWork
	x := simple(2)
	c := open(t, x, 2)
	do(t, c, start(0, 1), 0, api.OK)
	for _, e := range []api.Happen{work(-1, 1, 0, 1, -1), work(2, 1, 0, 1, -1), work(math.MaxInt64, 9, 9, 1, -1)} {
		do(t, c, e, 0, api.ErrArg)
	}
	for _, e := range []api.Happen{work(0, 0, 0, 1, -1), work(1, 1, 0, 1, -1), work(0, 9, 0, 1, -1), work(0, -1, 5, 1, -1)} {
		do(t, c, e, 0, api.ErrNone)
	}
	holds(t, c, 1, 0, 0)
	for _, n := range []int{0, -1, math.MinInt64} { // nothing is to be taken, not even of an input that isn't there
		do(t, c, work(0, 1, 7, n, 0), 0, api.OK)
	}
	holds(t, c, 1, 0, 0)
	do(t, c, work(0, 1, 0, 5, 0), 0, api.OK) // there are no entries, so none is omitted
	holds(t, c, 1, 0, 0)
	for _, in := range []int{1, -1, math.MaxInt64} {
		do(t, c, work(0, 1, in, 1, -1), 0, api.ErrArg) // the error of Take
		holds(t, c, 1, 0)
		do(t, c, start(0, 1), 0, api.OK)
	}
}

func TestWorkTakesSome(t *testing.T) { // P23.2: EventWork
	x := simple(1)
	c := open(t, x, 2)
	for i := range int64(260) {
		do(t, c, input(0, r(1, 1, i/50)), 0, api.OK)
	}
	do(t, c, start(0, 0), 0, api.OK)
	do(t, c, work(0, 0, 0, 3, -1), 3, api.OK)
	do(t, c, work(0, 0, 0, 1, 999), 1, api.OK)
	if l := vals(x, c, 0, 2, 0); !slices.Equal(l, []int64{1, 2, 3, 4}) {
		t.Error(l)
	}
	before := len(c.Entries())
	do(t, c, input(0, r(1, 1, 9)), 0, api.OK)
	do(t, c, work(0, 0, 0, 1000, -1), 256, api.ErrFull) // and nothing of it is appended
	holds(t, c, 0, 0)
	if len(c.Entries()) != before+1 {
		t.Error(len(c.Entries()), before)
	}
	do(t, c, work(0, 0, 0, 1000, -1), 0, api.ErrNone)
	do(t, c, start(1, 0), 0, api.OK)
	do(t, c, work(1, 0, 0, 256, -1), 256, api.OK)
	do(t, c, work(1, 0, 0, 256, -1), 1, api.OK)
	do(t, c, work(1, 0, 0, 256, -1), 0, api.OK)
	holds(t, c, 0, 1, 1)
	l := vals(x, c, 0, 2, 0)
	for i, n := range l {
		if n != int64(i+1) {
			t.Fatal(l)
		}
	}
	if len(l) != 261 {
		t.Error(len(l))
	}
}

func TestWorkStops(t *testing.T) { // P23.2: EventWork, with Stop
	x := simple(1)
	for stop := -2; stop < 9; stop++ {
		c := open(t, x, 2)
		do(t, c, input(0, r(1, 5, 1)), 0, api.OK)
		do(t, c, start(0, 0), 0, api.OK)
		before := len(c.Entries())
		do(t, c, work(0, 0, 0, 1, stop), 1, api.OK)
		whole := stop < 0 || stop >= 6 // five of data, and the commit
		added := stop
		if whole {
			added = 6
			holds(t, c, 0, 0, 0)
		} else {
			holds(t, c, 0, 0)
		}
		if n := len(c.Entries()) - before; n != added {
			t.Errorf("Stop %d: %d entries", stop, n)
		}
		if l := vals(x, c, 0, 2, 0); (len(l) == 1) != whole {
			t.Errorf("Stop %d: %v", stop, l)
		}
		do(t, c, start(1, 0), 0, api.OK) // somebody else takes the record, if it wasn't committed
		n := 1
		if whole {
			n = 0
		}
		do(t, c, work(1, 0, 0, 5, -1), n, api.OK)
		if l := vals(x, c, 0, 2, 0); !slices.Equal(l, []int64{5}) {
			t.Errorf("Stop %d: %v", stop, l)
		}
	}
}

func TestWorkWithoutLog(t *testing.T) { // P23.2: appending an entry returns an error
	x := simple(1)
	c := open(t, x, 1)
	do(t, c, input(0, r(1, 5, 1)), 0, api.OK)
	do(t, c, start(0, 0), 0, api.OK)
	do(t, c, cutOff(work(0, 0, 0, 1, 0)), 1, api.OK) // nothing is appended
	holds(t, c, 0, 0)
	do(t, c, start(0, 0), 0, api.OK)
	do(t, c, cutOff(work(0, 0, 0, 1, -1)), 1, api.ErrDown)
	holds(t, c, 0, 0)
	if len(c.Entries()) != 3 {
		t.Error(c.Entries())
	}
	do(t, c, reopen, 0, api.OK)
	do(t, c, start(0, 0), 0, api.OK)
	do(t, c, cutOff(work(0, 0, 0, 0, -1)), 0, api.OK) // nothing to append
	holds(t, c, 0, 0, 0)
	do(t, c, work(0, 0, 0, 1, -1), 1, api.OK)
	do(t, c, cutOff(work(0, 0, 0, 1, -1)), 0, api.OK)
	holds(t, c, 0, 0, 0)
}

func TestTheRestIsNotAppended(t *testing.T) { // P23.2: the log is full in the midst of a transaction
	x := simple(1)
	c := open(t, x, 1)
	do(t, c, start(0, 0), 0, api.OK)
	for range 4092 {
		if _, err := c.Do(input(0, r(1, 1, 0))); err != api.OK {
			t.Fatal(err)
		}
	}
	do(t, c, work(0, 0, 0, 1, -1), 1, api.ErrFull)
	holds(t, c, 0, 0)
	l := c.Entries()
	if len(l) != 4096 || l[4095].Kind != api.EntryData || l[4092].Kind != api.EntryInput {
		t.Error(len(l), l[4092:])
	}
	if n := view.Task(c.Told(), 0); n.Open != 3 || n.Txns != 0 {
		t.Error(n)
	}
}

func TestFencedWorkers(t *testing.T) { // P23.3: after a task has been started again, nobody else commits for it
	x := simple(1)
	c := open(t, x, 2)
	do(t, c, input(0, r(1, 5, 1)), 0, api.OK)
	do(t, c, input(0, r(1, 6, 2)), 0, api.OK)
	do(t, c, start(0, 0), 0, api.OK)
	do(t, c, start(1, 0), 0, api.OK)
	do(t, c, work(0, 0, 0, 2, -1), 2, api.OK) // it holds the task, but its entries don't count
	holds(t, c, 0, 1, 0, 1)
	if l := vals(x, c, 0, 2, 0); len(l) != 0 {
		t.Error(l)
	}
	do(t, c, work(1, 0, 0, 1, -1), 1, api.OK)
	do(t, c, work(0, 0, 0, 2, -1), 0, api.OK)
	do(t, c, work(1, 0, 0, 1, -1), 1, api.OK)
	if l := vals(x, c, 0, 2, 0); !slices.Equal(l, []int64{5, 11}) {
		t.Error(l)
	}
}

func TestDie(t *testing.T) { // P23.2: EventDie
	c := open(t, simple(3), 2)
	for n := range 3 {
		do(t, c, start(0, n), 0, api.OK)
	}
	do(t, c, start(1, 2), 0, api.OK)
	for _, w := range []int{math.MinInt64, -1, 2, math.MaxInt64} {
		do(t, c, die(w), 0, api.ErrArg)
	}
	do(t, c, die(0), 0, api.OK)
	holds(t, c, 0, 0)
	holds(t, c, 1, 0)
	holds(t, c, 2, 1, 1)
	do(t, c, die(0), 0, api.OK)
	do(t, c, work(0, 0, 0, 1, -1), 0, api.ErrNone)
	do(t, c, start(0, 0), 0, api.OK)
	holds(t, c, 0, 0, 0)
}

func TestCrash(t *testing.T) { // P23.2: EventCrash
	x := simple(1)
	c := open(t, x, 1)
	do(t, c, input(0, r(1, 5, 1)), 0, api.OK)
	for _, node := range []int{math.MinInt64, -1, 3, math.MaxInt64} {
		do(t, c, crash(node, 0, 0), 0, api.ErrArg)
	}
	for node := range 3 {
		do(t, c, crash(node, 1, 3), 0, api.OK)
	}
	do(t, c, start(0, 0), 0, api.OK)
	do(t, c, work(0, 0, 0, 1, -1), 1, api.OK)
	do(t, c, reopen, 0, api.OK)
	if l := vals(x, c, 0, 2, 0); !slices.Equal(l, []int64{5}) {
		t.Error(l)
	}
}

func TestBalance(t *testing.T) { // P23.2: EventBalance
	x := simple(4)
	c := open(t, x, 3)
	owners := func(want ...int) {
		t.Helper()
		for n, w := range want {
			if c.Owner(n) != w {
				t.Errorf("task %d: %d, want %d", n, c.Owner(n), w)
			}
		}
	}
	do(t, c, balance(0), 0, api.OK) // nobody is alive
	owners(-1, -1, -1, -1)
	do(t, c, balance(0b11), 4, api.OK)
	owners(0, 1, 0, 1)
	holds(t, c, 2, 0, 0)
	holds(t, c, 3, 1, 1)
	do(t, c, balance(0b11), 0, api.OK)
	do(t, c, balance(-1), 0, api.OK) // a third one: the share is still 2
	do(t, c, balance(0b101), 2, api.OK)
	owners(0, 2, 0, 2)
	holds(t, c, 1, 2, 1, 2)
	do(t, c, balance(1<<62), 0, api.OK) // no such worker
	do(t, c, balance(0b1000|1<<40), 0, api.OK)
	do(t, c, die(2), 0, api.OK)
	do(t, c, balance(0b101), 0, api.OK) // it still owns its tasks
	holds(t, c, 1, 2, 1)
	do(t, c, balance(0b100), 2, api.OK)
	owners(2, 2, 2, 2)
	epochs := []int{}
	for _, v := range c.Told().Tasks {
		epochs = append(epochs, v.Epoch)
	}
	if !slices.Equal(epochs, []int{2, 2, 2, 2}) {
		t.Error(epochs)
	}
	do(t, c, cutOff(balance(0b010)), 0, api.ErrDown)
	owners(2, 2, 2, 2)
	do(t, c, balance(0b010), 0, api.ErrDown)
	do(t, c, reopen, 0, api.OK)
	do(t, c, balance(0b010), 4, api.OK)
	owners(1, 1, 1, 1)
}

func TestBalanceCounts(t *testing.T) { // P23.2: the number of starts without an error, and the first error
	x := lay(1, source(0), source(1), vert(api.VertAgg, 0, sum, 1))
	c := open(t, x, 1)
	for range 4095 {
		if _, err := c.Do(input(0, r(1, 1, 0))); err != api.OK {
			t.Fatal(err)
		}
	}
	do(t, c, balance(1), 1, api.ErrFull) // room for one fence
	holds(t, c, 0, 0, 0)
	holds(t, c, 1, -1)
	do(t, c, balance(1), 0, api.ErrFull)
	c = open(t, large(), 1)
	for range 4095 {
		if _, err := c.Do(input(0, r(1, 1, 0))); err != api.OK {
			t.Fatal(err)
		}
	}
	do(t, c, balance(1), 0, api.ErrRange) // of both errors the first one
}

func TestOtherKinds(t *testing.T) { // P23.2
	c := open(t, simple(1), 1)
	for _, kind := range []int{math.MinInt64, -1, 0, 8, 9, math.MaxInt64} {
		do(t, c, api.Happen{Kind: kind, Reach: all}, 0, api.ErrArg)
	}
	for _, n := range []int{math.MinInt64, -1, 1, math.MaxInt64} {
		if c.Owner(n) != -1 || c.Holds(0, n) || c.Holds(n, 0) {
			t.Error(n)
		}
	}
}

func TestNilCluster(t *testing.T) { // P23.2
	var c *clus.Cluster
	for kind := -1; kind < 10; kind++ {
		do(t, c, api.Happen{Kind: kind, Reach: all}, 0, api.ErrDown)
	}
	for _, c := range []*clus.Cluster{nil, {}} {
		for kind := range 10 {
			c.Do(api.Happen{Kind: kind, N: -1, Reach: all})
		}
		if c.Owner(0) != -1 || c.Holds(0, 0) || len(c.Entries()) != 0 || !same(c.Told(), api.Told{}) {
			t.Error(c.Owner(0), c.Entries(), c.Told())
		}
	}
}

func TestNothingIsShared(t *testing.T) { // R3
	x := lay(1, source(0), vert(api.VertMap, 0, op(api.OpAdd, val, con(1)), 0), sink(0, 1))
	c := open(t, x, 1)
	y := lay(1, source(0), vert(api.VertMap, 0, op(api.OpAdd, val, con(1)), 0), sink(0, 1))
	x.V[1].E.Kids[1].N, x.V[2].From[0], x.V[0].Kind = 1000, 0, api.VertSink
	do(t, c, input(0, r(1, 5, 1)), 0, api.OK)
	do(t, c, start(0, 0), 0, api.OK)
	do(t, c, work(0, 0, 0, 1, -1), 1, api.OK)
	c.Entries()[0].Rec.Val = 99
	c.Told().Logs[0].Recs[0].Val = 99
	if l := vals(y, c, 0, 2, 0); !slices.Equal(l, []int64{6}) {
		t.Error(l)
	}
}

// anyTopo is some valid topology.
func anyTopo(rnd *rand.Rand) api.Topo {
	x := lay(1+rnd.Intn(3), source(0))
	for len(x.V) < 3+rnd.Intn(10) {
		y := x
		from := rnd.Intn(len(x.V))
		v := vert(1+rnd.Intn(10), 0, []api.Expr{val, over, con(2), op(api.OpKey)}[rnd.Intn(4)], from)
		switch v.Kind {
		case api.VertSource:
			v = source(rnd.Int63n(8))
		case api.VertSink:
			v = sink(rnd.Int63n(8), from)
		case api.VertJoin:
			v.From, v.E = append(v.From, rnd.Intn(len(x.V))), sum
		case api.VertAgg:
			v.E = sum
		case api.VertTumble, api.VertSession:
			v.E, v.N = sum, 1+rnd.Int63n(9)
		}
		y.V = append(slices.Clone(x.V), v)
		if _, err := topo.Check(y); err == api.OK {
			x = y
		}
	}
	return x
}

// anyEvent is some event, often one without an error.
func anyEvent(rnd *rand.Rand, c *clus.Cluster, x api.Topo, workers, nodes int) api.Happen {
	e := api.Happen{Kind: 1 + rnd.Intn(7), A: rnd.Intn(workers), B: rnd.Intn(cut.Tasks(x)), C: rnd.Intn(2), N: rnd.Intn(4), Stop: -1}
	if rnd.Intn(3) > 0 {
		e.Kind = []int{api.EventInput, api.EventWork, api.EventWork, api.EventStart}[rnd.Intn(4)]
	}
	for range nodes {
		e.Reach = append(e.Reach, rnd.Intn(40) > 0)
	}
	switch e.Kind {
	case api.EventInput:
		if rnd.Intn(2) == 0 {
			e.A = rnd.Intn(len(x.V))
		} else {
			e.A = 0
		}
		e.Rec = r(rnd.Int63n(4)-1, rnd.Int63n(5), rnd.Int63n(40))
	case api.EventWork:
		if w := c.Owner(e.B); w >= 0 && rnd.Intn(4) > 0 {
			e.A = w
		}
		if rnd.Intn(3) > 0 {
			e.C = 0
		}
		if rnd.Intn(6) == 0 {
			e.Stop = rnd.Intn(9)
		}
	case api.EventCrash:
		e.A, e.N, e.B = rnd.Intn(nodes), rnd.Intn(30), rnd.Intn(9)
	case api.EventBalance:
		e.N = rnd.Intn(1 << workers)
	case api.EventDie:
		if rnd.Intn(3) > 0 {
			e.Kind = api.EventOpen
		}
	}
	return e
}

// sinks are what the machines of the tasks return for the records that were committed as consumed, by the logs of the sinks.
func sinks(t *testing.T, x api.Topo, y api.Told) map[int][]api.Record {
	out := map[int][]api.Record{}
	for _, v := range y.Tasks {
		part, p := cut.Of(x, v.Task)
		m, err := model.New(x, part)
		if err != api.OK {
			t.Fatal(err)
		}
		at := make([]int, len(m.Inputs()))
		for _, i := range v.Order {
			in := m.Inputs()[i]
			got, err := m.Step(in, view.Log(y, cut.Log(x, 0, in, p)).Recs[at[i]])
			if err != api.OK {
				t.Fatal(err)
			}
			at[i]++
			for _, o := range got.Outs {
				if x.V[o.Vert].Kind == api.VertSink {
					log := cut.Log(x, 0, o.Vert, p)
					out[log] = append(out[log], o.Rec)
				}
			}
		}
		if v.Txns > 0 && len(v.Order) > 0 && !slices.Equal(at, v.Offs) {
			t.Fatal(at, v.Offs)
		}
	}
	return out
}

func TestExactlyOnce(t *testing.T) { // P23.3, and P3 to P5 of the whole
	rnd := rand.New(rand.NewSource(1))
	outs, txns := 0, 0
	for range 150 {
		x := anyTopo(rnd)
		workers, nodes := 1+rnd.Intn(4), []int{1, 3, 5}[rnd.Intn(3)]
		c, err := clus.New(x, workers, nodes, 1<<20)
		if err != api.OK {
			t.Fatal(err)
		}
		var before api.Told
		for range 200 {
			c.Do(anyEvent(rnd, c, x, workers, nodes))
			now := c.Told()
			for _, old := range before.Logs { // what was committed remains
				v := view.Log(now, old.Log)
				if len(v.Recs) < len(old.Recs) || !slices.Equal(v.Recs[:len(old.Recs)], old.Recs) {
					t.Fatal(x, old, v)
				}
			}
			before = now
		}
		want := sinks(t, x, before)
		for v, y := range x.V {
			for p := range x.Parts {
				log := cut.Log(x, 0, v, p)
				if got := view.Log(before, log).Recs; y.Kind == api.VertSink && !slices.Equal(got, want[log]) {
					t.Fatal(x, v, p, got, want[log])
				} else if y.Kind == api.VertSink {
					outs += len(got)
				}
			}
		}
		for _, v := range before.Tasks {
			txns += v.Txns
		}
	}
	if outs < 500 || txns < 1000 { // or the events were too dull
		t.Error(outs, txns)
	}
}

func TestEventsAgainstTheLayers(t *testing.T) { // P23.2: entries, owners and errors, by way of the layers below
	rnd := rand.New(rand.NewSource(2))
	for range 60 {
		x := anyTopo(rnd)
		workers := 1 + rnd.Intn(4)
		c, _ := clus.New(x, workers, 3, 1<<20)
		log, _ := slog.New(3, 1<<20)
		owners := slices.Repeat([]int{-1}, cut.Tasks(x))
		add := func(y api.Entry, reach []bool) api.Errno {
			b, err := rec.Entry(y)
			if err == api.OK {
				_, err = log.Append(b, reach)
			}
			return err
		}
		fence := func(w, n int, reach []bool) api.Errno {
			err := add(api.Entry{Kind: api.EntryFence, Task: n, Epoch: view.Task(c.Told(), n).Epoch + 1}, reach)
			if err == api.OK {
				owners[n] = w
			}
			return err
		}
		for range 80 {
			e := anyEvent(rnd, c, x, workers, 3)
			want, count := api.OK, 0
			switch e.Kind {
			case api.EventWork: // followed by what it appends
				c.Do(e)
				log.Open(all)
				c.Do(reopen)
				for _, y := range c.Entries()[log.Len():] {
					if y.Kind < api.EntryData || y.Kind > api.EntryCommit || y.Task != e.B {
						t.Fatal(e, y)
					}
					add(y, all)
				}
				continue
			case api.EventInput:
				want = api.ErrArg
				if x.V[e.A].Kind == api.VertSource {
					want = add(api.Entry{Kind: api.EntryInput, Log: cut.Log(x, 0, e.A, cut.Part(x, e.Rec.Key)), Rec: e.Rec}, e.Reach)
				}
			case api.EventOpen:
				want = log.Open(e.Reach)
			case api.EventStart:
				want = fence(e.A, e.B, e.Reach)
			case api.EventCrash:
				want = log.Crash(e.A, e.N, e.B)
			case api.EventBalance:
				var up []bool
				for i := range workers {
					up = append(up, e.N>>i&1 != 0)
				}
				plan := asgn.Assign(len(owners), up, owners)
				told := c.Told()
				for n, w := range plan {
					if w >= 0 && w != owners[n] {
						err := add(api.Entry{Kind: api.EntryFence, Task: n, Epoch: view.Task(told, n).Epoch + 1}, e.Reach)
						if err == api.OK {
							owners[n] = w
							count++
						} else if want == api.OK {
							want = err
						}
					}
				}
			}
			do(t, c, e, count, want)
			var l []api.Entry
			for i := range log.Len() {
				b, _ := log.Get(i)
				y, err := rec.ToEntry(b)
				if err != api.OK {
					y = api.Entry{Kind: api.EntryHole}
				}
				l = append(l, y)
			}
			if !same(l, c.Entries()) {
				t.Fatal(e, l, c.Entries())
			}
			for n, w := range owners {
				if c.Owner(n) != w || w >= 0 && e.Kind == api.EventStart && e.B == n && want == api.OK && !c.Holds(w, n) {
					t.Fatal(e, n, w, c.Owner(n))
				}
			}
		}
	}
}

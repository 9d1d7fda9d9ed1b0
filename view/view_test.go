package view_test

import (
	"fmt"
	"math"
	"math/rand"
	"slices"
	"testing"

	"tidemill/api"
	"tidemill/rec"
	"tidemill/view"
)

func r(n int64) api.Record { return api.Record{Key: n, Val: 10 * n, Time: n} }

func input(log int, n int64) api.Entry {
	return api.Entry{Kind: api.EntryInput, Log: log, Rec: r(n)}
}

func data(task, epoch, txn, log int, n int64) api.Entry {
	return api.Entry{Kind: api.EntryData, Task: task, Epoch: epoch, Txn: txn, Log: log, Rec: r(n)}
}

func del(x api.Entry) api.Entry {
	x.Del = true
	return x
}

func commit(task, epoch, txn int, offs, order []int) api.Entry {
	return api.Entry{Kind: api.EntryCommit, Task: task, Epoch: epoch, Txn: txn, Offs: offs, Order: order}
}

func abort(task, epoch, txn int) api.Entry {
	return api.Entry{Kind: api.EntryAbort, Task: task, Epoch: epoch, Txn: txn}
}

func fence(task, epoch int) api.Entry {
	return api.Entry{Kind: api.EntryFence, Task: task, Epoch: epoch}
}

var hole = api.Entry{Kind: api.EntryHole}

// logView is a log of records; a negative one has Del.
func logView(log int, recs ...int64) api.LogView {
	v := api.LogView{Log: log}
	for _, n := range recs {
		v.Recs = append(v.Recs, r(max(n, -n)))
		v.Dels = append(v.Dels, n < 0)
	}
	return v
}

func told(looked int, logs []api.LogView, tasks ...api.TaskView) api.Told {
	return api.Told{Logs: logs, Tasks: tasks, Looked: looked}
}

func same(a, b any) bool { return fmt.Sprint(a) == fmt.Sprint(b) }

func TestRead(t *testing.T) { // P11.1, P11.2
	type entries = []api.Entry
	type logs = []api.LogView
	type task = api.TaskView
	for k, c := range []struct {
		l      entries
		want   api.Told
		stable int
	}{
		{nil, api.Told{}, 0},
		{entries{hole, hole}, told(2, nil), 2},
		{entries{input(5, 1), input(2, 2), input(5, 3)}, told(3, logs{logView(2, 2), logView(5, 1, 3)}), 3},
		{entries{input(0, 0), input(1<<20, 1)}, told(2, logs{logView(0, 0), logView(1<<20, 1)}), 2},
		{entries{data(1, 0, 0, 5, 7)}, told(1, nil, task{Task: 1, Open: 1}), 0},
		{entries{data(1, 0, 0, 5, 7), commit(1, 0, 0, []int{3}, []int{0, 0})},
			told(2, logs{logView(5, 7)}, task{Task: 1, Txns: 1, Offs: []int{3}, Order: []int{0, 0}}), 2},
		{entries{data(1, 0, 0, 5, 7), fence(1, 1)}, told(2, nil, task{Task: 1, Epoch: 1}), 2},
		{entries{fence(1, 1), data(1, 0, 0, 5, 7), commit(1, 0, 0, []int{3}, []int{0})}, told(3, nil, task{Task: 1, Epoch: 1}), 3},
		{entries{data(1, 0, 0, 5, 7), fence(1, 1), commit(1, 0, 0, []int{3}, []int{0})}, told(3, nil, task{Task: 1, Epoch: 1}), 3},
		{entries{data(1, 0, 0, 5, 7), fence(1, 1), commit(1, 1, 0, []int{3}, []int{0})},
			told(3, nil, task{Task: 1, Epoch: 1, Txns: 1, Offs: []int{3}, Order: []int{0}}), 3},
		{entries{data(1, 0, 0, 5, 7), fence(1, 0), commit(1, 0, 0, nil, nil)}, told(3, logs{logView(5, 7)}, task{Task: 1, Txns: 1}), 3},
		{entries{fence(1, 3), data(1, 3, 0, 5, 7), fence(1, 2), fence(1, 3), commit(1, 3, 0, nil, nil)},
			told(5, logs{logView(5, 7)}, task{Task: 1, Epoch: 3, Txns: 1}), 5},
		{entries{data(1, 0, 0, 5, 7), abort(1, 0, 0), data(1, 0, 1, 5, 8), commit(1, 0, 1, nil, nil)},
			told(4, logs{logView(5, 8)}, task{Task: 1, Txns: 2}), 4},
		{entries{data(1, 0, 0, 5, 7), abort(1, 0, 1), abort(1, 1, 0), commit(1, 0, 1, nil, nil), commit(1, 1, 0, nil, nil), data(1, 1, 0, 5, 7), data(1, 0, 1, 5, 8)},
			told(7, nil, task{Task: 1, Open: 1}), 0}, // the others don't count
		{entries{data(1, 1, 0, 5, 7), commit(2, 0, 4, nil, nil), abort(3, 9, 9), fence(4, 0), fence(0, 2)},
			told(5, nil, task{Epoch: 2}, task{Task: 1}, task{Task: 2}, task{Task: 3}, task{Task: 4}), 5}, // named, whether it counts or not
		{entries{del(data(1, 0, 0, 6, 1)), data(1, 0, 0, 5, 2), input(5, 3), data(1, 0, 0, 6, 4), commit(1, 0, 0, nil, nil), input(6, 5)},
			told(6, logs{logView(5, 3, 2), logView(6, -1, 4, 5)}, task{Task: 1, Txns: 1}), 6}, // in the order of the commits
		{entries{data(1, 0, 0, 5, 1), data(2, 0, 0, 5, 2), commit(2, 0, 0, nil, nil), commit(1, 0, 0, nil, nil)},
			told(4, logs{logView(5, 2, 1)}, task{Task: 1, Txns: 1}, task{Task: 2, Txns: 1}), 4},
		{entries{hole, data(1, 0, 0, 5, 1), data(2, 0, 0, 5, 2), commit(1, 0, 0, nil, nil)},
			told(4, logs{logView(5, 1)}, task{Task: 1, Txns: 1}, task{Task: 2, Open: 1}), 2},
		{entries{data(2, 0, 0, 5, 1), data(1, 0, 0, 5, 2), data(2, 0, 0, 5, 3), fence(1, 1)}, told(4, nil, task{Task: 1, Epoch: 1}, task{Task: 2, Open: 2}), 0},
		{entries{commit(1, 0, 0, []int{1, 2}, []int{0, 1, 1}), commit(1, 0, 1, []int{5}, []int{0})},
			told(2, nil, task{Task: 1, Txns: 2, Offs: []int{5}, Order: []int{0, 1, 1, 0}}), 2},
		{entries{commit(1, 0, 0, []int{1, 2}, []int{0}), commit(1, 0, 1, nil, nil), abort(1, 0, 2)}, told(3, nil, task{Task: 1, Txns: 3, Order: []int{0}}), 3},
		{entries{commit(1, 0, 0, []int{1}, []int{0}), abort(1, 0, 1), fence(1, 5)}, told(3, nil, task{Task: 1, Epoch: 5, Txns: 2, Offs: []int{1}, Order: []int{0}}), 3},
	} {
		if got := view.Read(c.l); !same(got, c.want) {
			t.Errorf("%d: %v; want %v", k, got, c.want)
		}
		if got := view.Stable(c.l); got != c.stable {
			t.Errorf("%d: stable %d, want %d", k, got, c.stable)
		}
	}
}

func TestInvalidEntries(t *testing.T) { // an entry that isn't valid is ignored
	late := data(1, 0, 0, 5, 7)
	late.Rec.Time = api.MaxTime + 1
	early := input(5, 7)
	early.Rec.Time = -1
	for k, x := range []api.Entry{
		{}, {Kind: 7}, {Kind: -1}, late, early,
		data(1, 0, 0, -1, 7), data(-1, 0, 0, 5, 7), data(1<<20+1, 0, 0, 5, 7), fence(1, -1), fence(1, 1<<20+1), fence(-3, 1),
		commit(1, 0, 0, []int{-1}, nil), commit(1, 0, 0, nil, []int{1<<20 + 1}), commit(1, 0, 0, make([]int, 9), nil), commit(1, 0, 0, nil, make([]int, 257)),
		{Kind: api.EntryInput, Log: math.MaxInt64}, {Kind: api.EntryInput, Task: 1}, {Kind: api.EntryHole, Task: 2}, {Kind: api.EntryFence, Task: 2, Txn: 1},
		{Kind: api.EntryAbort, Task: 2, Log: 1},
	} {
		if got := view.Read([]api.Entry{x}); !same(got, told(1, nil)) {
			t.Errorf("%d: %v", k, got)
		}
		if got := view.Stable([]api.Entry{x, x}); got != 2 {
			t.Errorf("%d: %d", k, got)
		}
		before, after := data(1, 0, 0, 5, 1), commit(1, 0, 0, nil, nil)
		if got := view.Read([]api.Entry{before, x, after}); !same(got, told(3, []api.LogView{logView(5, 1)}, api.TaskView{Task: 1, Txns: 1})) {
			t.Errorf("%d: %v", k, got)
		}
	}
}

func TestLogAndTask(t *testing.T) { // P11.2
	x := told(9, []api.LogView{logView(2, 1, -2), logView(5, 3), logView(2, 4)},
		api.TaskView{Task: 3, Epoch: 1, Txns: 2, Offs: []int{4}, Order: []int{5}, Open: 6}, api.TaskView{Task: -7, Txns: 1})
	for n, want := range map[int]api.LogView{2: logView(2, 1, -2), 5: logView(5, 3), 0: logView(0), -1: logView(-1), math.MaxInt64: logView(math.MaxInt64)} {
		if got := view.Log(x, n); !same(got, want) {
			t.Errorf("log %d: %v", n, got)
		}
	}
	for n, want := range map[int]api.TaskView{3: x.Tasks[0], -7: x.Tasks[1], 0: {}, 4: {Task: 4}, math.MinInt64: {Task: math.MinInt64}} {
		if got := view.Task(x, n); !same(got, want) {
			t.Errorf("task %d: %v", n, got)
		}
	}
	if got := view.Log(api.Told{}, 3); !same(got, logView(3)) {
		t.Error(got)
	}
	odd := api.Told{Logs: []api.LogView{{Log: 1, Recs: []api.Record{{Key: 1}}}, {Log: 2, Dels: []bool{true}}}}
	if got := view.Log(odd, 1); !same(got, odd.Logs[0]) {
		t.Error(got)
	}
	if got := view.Log(odd, 2); !same(got, odd.Logs[1]) {
		t.Error(got)
	}
}

func TestNothingIsShared(t *testing.T) { // R3
	l := []api.Entry{input(1, 1), commit(1, 0, 0, []int{3}, []int{4}), commit(1, 0, 1, []int{5}, []int{6})}
	x := view.Read(l)
	x.Tasks[0].Offs[0], x.Tasks[0].Order[0], x.Tasks[0].Order[1], x.Logs[0].Recs[0].Key = 99, 99, 99, 99
	if l[1].Offs[0] != 3 || l[1].Order[0] != 4 || l[2].Offs[0] != 5 || l[2].Order[0] != 6 || l[0].Rec.Key != 1 {
		t.Error(l)
	}
	x = view.Read(l)
	a, b := view.Log(x, 1), view.Task(x, 1)
	a.Recs[0].Key, a.Dels[0], b.Offs[0], b.Order[0] = 99, true, 99, 99
	if !same(x, view.Read(l)) {
		t.Error(x)
	}
}

// anyEntries are entries about few tasks, epochs, transactions and logs, some of them not valid.
func anyEntries(rnd *rand.Rand, n int) []api.Entry {
	var l []api.Entry
	for range n {
		x := api.Entry{Kind: 1 + rnd.Intn(6), Task: rnd.Intn(3), Epoch: rnd.Intn(3), Txn: rnd.Intn(4)}
		switch x.Kind {
		case api.EntryInput:
			x = input(rnd.Intn(3), rnd.Int63n(9))
		case api.EntryData:
			x.Log, x.Rec, x.Del = rnd.Intn(3), r(rnd.Int63n(9)), rnd.Intn(2) == 0
		case api.EntryCommit:
			x.Offs, x.Order = []int{rnd.Intn(9)}, []int{rnd.Intn(9)}[:rnd.Intn(2)]
		case api.EntryFence:
			x.Txn = 0
		case api.EntryHole:
			x = hole
		}
		if rnd.Intn(9) == 0 {
			x.Rec.Time = -1
		}
		l = append(l, x)
	}
	return l
}

// slow finds out by the words of the document what one task leads to: the entries that are committed by each of its commits, and its view.
func slow(l []api.Entry, n int) (commits map[int][]int, v api.TaskView, named bool, open []int) {
	commits = map[int][]int{}
	v.Task = n
	for at, x := range l {
		if !rec.May(x) || x.Task != n || x.Kind < api.EntryData || x.Kind > api.EntryFence {
			continue
		}
		named = true
		counts := x.Epoch == v.Epoch && x.Txn == v.Txns
		switch {
		case x.Kind == api.EntryFence && x.Epoch > v.Epoch:
			v.Epoch, open = x.Epoch, nil
		case x.Kind == api.EntryData && counts:
			open = append(open, at)
		case x.Kind == api.EntryAbort && counts:
			open = nil
			v.Txns++
		case x.Kind == api.EntryCommit && counts:
			commits[at], open = open, nil
			v.Txns++
			v.Offs, v.Order = x.Offs, append(slices.Clone(v.Order), x.Order...)
		}
	}
	v.Open = len(open)
	return commits, v, named, open
}

func TestAgainstTheWords(t *testing.T) { // P11.1, P11.2
	rnd := rand.New(rand.NewSource(1))
	for range 3000 {
		l := anyEntries(rnd, rnd.Intn(40))
		logs := make([]api.LogView, 3)
		want := api.Told{Looked: len(l)}
		stable := len(l)
		all := map[int][]int{}
		for n := range 3 {
			commits, v, named, open := slow(l, n)
			if named {
				want.Tasks = append(want.Tasks, v)
			}
			if len(open) > 0 {
				stable = min(stable, open[0])
			}
			for at, list := range commits {
				all[at] = list
			}
		}
		for at, x := range l {
			list := all[at]
			if x.Kind == api.EntryInput && rec.May(x) {
				list = []int{at}
			}
			for _, i := range list {
				v := &logs[l[i].Log]
				v.Recs, v.Dels = append(v.Recs, l[i].Rec), append(v.Dels, l[i].Del)
			}
		}
		for n, v := range logs {
			v.Log = n
			if len(v.Recs) > 0 {
				want.Logs = append(want.Logs, v)
			}
		}
		if got := view.Read(l); !same(got, want) {
			t.Fatalf("%v:\n%v\n%v", l, got, want)
		}
		if got := view.Stable(l); got != stable {
			t.Fatal(l, got, stable)
		}
	}
}

func TestCommittedStateGrows(t *testing.T) { // P11.3
	rnd := rand.New(rand.NewSource(2))
	for range 1000 {
		l := anyEntries(rnd, 40)
		var before api.Told
		for n := range len(l) + 1 {
			now := view.Read(l[:n])
			for _, old := range before.Logs {
				v := view.Log(now, old.Log)
				if len(v.Recs) < len(old.Recs) || !slices.Equal(v.Recs[:len(old.Recs)], old.Recs) || !slices.Equal(v.Dels[:len(old.Dels)], old.Dels) {
					t.Fatal(l[:n], old, v)
				}
			}
			for _, old := range before.Tasks {
				v := view.Task(now, old.Task)
				if v.Epoch < old.Epoch || v.Txns < old.Txns || len(v.Order) < len(old.Order) || !slices.Equal(v.Order[:len(old.Order)], old.Order) {
					t.Fatal(l[:n], old, v)
				}
			}
			if n > 0 && l[n-1].Kind != api.EntryInput && l[n-1].Epoch < view.Task(before, l[n-1].Task).Epoch && !same(now.Logs, before.Logs) {
				t.Fatal("a fenced entry has an effect", l[:n])
			}
			before = now
		}
	}
}

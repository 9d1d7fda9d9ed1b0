package slog_test

import (
	"bytes"
	"math"
	"math/rand"
	"testing"

	"tidemill/api"
	"tidemill/slog"
)

func open(t *testing.T, nodes, room int) *slog.Log {
	t.Helper()
	l, err := slog.New(nodes, room)
	if l == nil || err != api.OK {
		t.Fatal(nodes, room, err)
	}
	return l
}

// reach has true where the text has an x.
func reach(text string) []bool {
	var l []bool
	for _, c := range text {
		l = append(l, c == 'x')
	}
	return l
}

// has checks the sequence and the epoch of the client.
func has(t *testing.T, l *slog.Log, epoch int, want ...string) {
	t.Helper()
	if l.Len() != len(want) || l.Epoch() != epoch {
		t.Errorf("%d payloads, epoch %d; want %d, %d", l.Len(), l.Epoch(), len(want), epoch)
	}
	for i := -1; i <= len(want); i++ {
		got, err := l.Get(i)
		if i < 0 || i == len(want) {
			if got != nil || err != api.ErrRange {
				t.Errorf("payload %d: %q, %d", i, got, err)
			}
		} else if err != api.OK || string(got) != want[i] {
			t.Errorf("payload %d: %q, %d; want %q", i, got, err, want[i])
		}
	}
	for _, i := range []int{math.MinInt64, math.MaxInt64} {
		if got, err := l.Get(i); got != nil || err != api.ErrRange {
			t.Errorf("payload %d: %q, %d", i, got, err)
		}
	}
}

func mustOpen(t *testing.T, l *slog.Log, at string, want api.Errno) {
	t.Helper()
	if err := l.Open(reach(at)); err != want {
		t.Errorf("Open %s: %d, want %d", at, err, want)
	}
}

// add appends a payload; index -1 stands for ErrDown.
func add(t *testing.T, l *slog.Log, b, at string, index int) {
	t.Helper()
	want := api.OK
	if index < 0 {
		index, want = 0, api.ErrDown
	}
	if i, err := l.Append([]byte(b), reach(at)); i != index || err != want {
		t.Errorf("Append %q %s: %d, %d; want %d, %d", b, at, i, err, index, want)
	}
}

func TestNew(t *testing.T) { // P10.1
	for n := -2; n < 12; n++ {
		l, err := slog.New(n, 100)
		if ok := n == 1 || n == 3 || n == 5 || n == 7; ok != (err == api.OK) || ok != (l != nil) || !ok && err != api.ErrArg {
			t.Errorf("%d nodes: %d", n, err)
		}
		if l != nil {
			has(t, l, 0)
			add(t, l, "a", "xxxxxxx", -1) // it isn't open
		}
	}
	for _, n := range []int{math.MinInt64, math.MinInt64 + 1, math.MaxInt64, 9, 1<<32 + 1} {
		if l, err := slog.New(n, 100); l != nil || err != api.ErrArg {
			t.Errorf("%d nodes: %d", n, err)
		}
	}
	for _, room := range []int{-1, 1<<20 + 1} {
		if l, err := slog.New(3, room); l != nil || err != api.ErrArg {
			t.Errorf("room %d: %d", room, err)
		}
	}
	if l, err := slog.New(3, 1<<20); l == nil || err != api.OK {
		t.Error(err)
	}
}

func TestQuorums(t *testing.T) { // P10.2, P10.3
	for _, c := range []struct {
		nodes int
		reach string
		want  api.Errno
	}{
		{1, "x", api.OK}, {1, "-", api.ErrDown}, {1, "", api.ErrDown}, {1, "-x", api.ErrDown}, {1, "xx", api.OK},
		{3, "xx-", api.OK}, {3, "x-x", api.OK}, {3, "-xx", api.OK}, {3, "xx", api.OK}, {3, "x--", api.ErrDown}, {3, "x", api.ErrDown}, {3, "---xxx", api.ErrDown},
		{5, "xxx", api.OK}, {5, "--xxx", api.OK}, {5, "xx", api.ErrDown}, {5, "x---xxx", api.ErrDown},
		{7, "xxxx", api.OK}, {7, "x-x-x-x", api.OK}, {7, "-x-x-x-", api.ErrDown},
	} {
		l := open(t, c.nodes, 1000)
		mustOpen(t, l, c.reach, c.want)
		has(t, l, 1)
		mustOpen(t, l, "xxxxxxx", api.OK)
		index := 0
		if c.want != api.OK {
			index = -1
		}
		add(t, l, "a", c.reach, index)
		if c.want == api.OK {
			has(t, l, 2, "a")
		} else {
			has(t, l, 2)
			add(t, l, "b", "xxxxxxx", -1) // it's not open any more
		}
	}
}

func TestTheExample(t *testing.T) { // the chapter's example
	for _, c := range []struct {
		at   string
		want []string
	}{{"-xx", []string{"a"}}, {"x-x", []string{"a", "b"}}} {
		l := open(t, 3, 1000)
		mustOpen(t, l, "xx-", api.OK)
		add(t, l, "a", "xx-", 0)
		add(t, l, "b", "x--", -1)
		has(t, l, 1, "a")
		mustOpen(t, l, c.at, api.OK)
		has(t, l, 2, c.want...)
	}
}

func TestAppendErrors(t *testing.T) { // P10.3
	l := open(t, 1, 1<<20)
	big := make([]byte, 2048)
	if _, err := l.Append(nil, reach("x")); err != api.ErrDown { // ahead of ErrRange
		t.Error(err)
	}
	mustOpen(t, l, "x", api.OK)
	for _, b := range [][]byte{nil, {}, make([]byte, 2049)} {
		if i, err := l.Append(b, reach("")); i != 0 || err != api.ErrRange {
			t.Error(len(b), i, err)
		}
	}
	if i, err := l.Append(big, reach("x")); i != 0 || err != api.OK { // an ErrRange doesn't close it
		t.Error(i, err)
	}
	for n := 1; n < 4096; n++ {
		if i, err := l.Append([]byte{byte(n)}, reach("x")); i != n || err != api.OK {
			t.Fatal(n, i, err)
		}
	}
	for range 2 {
		if i, err := l.Append([]byte{1}, reach("")); i != 0 || err != api.ErrFull {
			t.Error(i, err)
		}
		if _, err := l.Append(nil, reach("x")); err != api.ErrRange { // ahead of ErrFull
			t.Error(err)
		}
	}
	if l.Len() != 4096 {
		t.Error(l.Len())
	}
	mustOpen(t, l, "x", api.OK)
	if b, err := l.Get(4095); l.Len() != 4096 || err != api.OK || !bytes.Equal(b, []byte{255}) {
		t.Error(l.Len(), b, err)
	}
}

func TestOpenTakesOver(t *testing.T) { // P10.2
	l := open(t, 3, 10000)
	mustOpen(t, l, "xxx", api.OK)
	add(t, l, "a", "xxx", 0)
	add(t, l, "b", "xx-", 1)
	add(t, l, "c", "-xx", 2)
	add(t, l, "d", "x-x", 3)
	mustOpen(t, l, "x--", api.ErrDown) // the sequence stays, the epoch rises, the client isn't open
	has(t, l, 2, "a", "b", "c", "d")
	add(t, l, "e", "xxx", -1)
	for k, at := range []string{"-xx", "x-x", "xx-", "xxx"} {
		mustOpen(t, l, at, api.OK)
		has(t, l, 3+k, "a", "b", "c", "d")
	}
}

func TestOpenWritesAgain(t *testing.T) { // P10.2: what a minority had is on a quorum after Open
	l := open(t, 3, 10000)
	mustOpen(t, l, "xxx", api.OK)
	add(t, l, "a", "x--", -1)
	mustOpen(t, l, "xx-", api.OK)
	has(t, l, 2, "a")
	mustOpen(t, l, "-xx", api.OK)
	has(t, l, 3, "a")
	if l.Lose(0) != api.OK || l.Lose(1) != api.OK {
		t.Error("Lose")
	}
	mustOpen(t, l, "x-x", api.OK)
	has(t, l, 4, "a")
}

func TestNewerEpochsWin(t *testing.T) { // P10.2
	l := open(t, 3, 10000)
	mustOpen(t, l, "xxx", api.OK)
	add(t, l, "old", "x--", -1)
	mustOpen(t, l, "-xx", api.OK) // the payload isn't found
	has(t, l, 2)
	add(t, l, "new", "-xx", 0)
	for _, at := range []string{"xx-", "x-x", "xxx"} {
		mustOpen(t, l, at, api.OK)
		if got, _ := l.Get(0); l.Len() != 1 || string(got) != "new" {
			t.Errorf("%s: %q", at, got)
		}
	}
}

func TestSealedNodesRefuse(t *testing.T) { // P10.2: a node that lost its disk is below the others' epoch
	l := open(t, 3, 10000)
	mustOpen(t, l, "xxx", api.OK)
	add(t, l, "a", "xxx", 0)
	l.Lose(0)
	add(t, l, "b", "xx-", 1)
	l.Lose(1)
	l.Lose(2)
	mustOpen(t, l, "xxx", api.OK) // node 0 alone has something, and nothing in slot 0: a hole
	has(t, l, 2, "", "b")
	add(t, l, "c", "xxx", 2)
	mustOpen(t, l, "x-x", api.OK)
	has(t, l, 3, "", "b", "c")
}

func TestFullDisks(t *testing.T) { // P10.2: fewer than a quorum return OK for an element
	l := open(t, 1, 7+11+7) // a seal, a write of a byte and a seal
	mustOpen(t, l, "x", api.OK)
	add(t, l, "a", "x", 0)
	mustOpen(t, l, "x", api.ErrDown)
	has(t, l, 2, "a")
	add(t, l, "b", "x", -1)
	l = open(t, 1, 6)
	mustOpen(t, l, "x", api.ErrDown) // not even a seal
	has(t, l, 1)
	l = open(t, 1, 7)
	mustOpen(t, l, "x", api.OK)
	add(t, l, "a", "x", -1)
	has(t, l, 1)
}

func TestCrashAndLose(t *testing.T) { // P10.4
	l := open(t, 3, 10000)
	mustOpen(t, l, "xxx", api.OK)
	add(t, l, "a", "xxx", 0)
	for _, node := range []int{math.MinInt64, -1, 3, 4, math.MaxInt64} {
		if err := l.Crash(node, 0, 0); err != api.ErrArg {
			t.Error(node, err)
		}
		if err := l.Lose(node); err != api.ErrArg {
			t.Error(node, err)
		}
	}
	for node := range 3 { // everything is synced: nothing is lost, and the client stays open
		if err := l.Crash(node, node, node); err != api.OK {
			t.Error(node, err)
		}
	}
	add(t, l, "b", "x-x", 1)
	has(t, l, 1, "a", "b")
	mustOpen(t, l, "-xx", api.OK)
	has(t, l, 2, "a", "b")
	for node := range 3 {
		if err := l.Lose(node); err != api.OK {
			t.Error(node, err)
		}
	}
	has(t, l, 2, "a", "b")
	mustOpen(t, l, "xxx", api.OK)
	has(t, l, 3)
}

func TestNilLog(t *testing.T) { // P10.4
	for _, l := range []*slog.Log{nil, {}} {
		if err := l.Open(reach("xxx")); err != api.ErrDown {
			t.Error(err)
		}
		if i, err := l.Append([]byte{1}, reach("xxx")); i != 0 || err != api.ErrDown {
			t.Error(i, err)
		}
		if err := l.Crash(0, 0, 0); err != api.ErrArg {
			t.Error(err)
		}
		if err := l.Lose(0); err != api.ErrArg {
			t.Error(err)
		}
	}
	var l *slog.Log
	if i, err := l.Append(nil, nil); i != 0 || err != api.ErrDown {
		t.Error(i, err)
	}
	has(t, l, 0)
}

func TestNothingIsShared(t *testing.T) { // R3
	l := open(t, 1, 1000)
	mustOpen(t, l, "x", api.OK)
	b := []byte("a")
	l.Append(b, reach("x"))
	b[0] = 'b'
	got, _ := l.Get(0)
	got[0] = 'c'
	has(t, l, 1, "a")
	mustOpen(t, l, "x", api.OK)
	has(t, l, 2, "a")
}

// node is a storage node by the words of the document, on a disk that never is full.
type node struct {
	epoch  int
	epochs map[int]int
	bytes  map[int]string
}

func (n *node) write(epoch, at int, b string) bool {
	old, ok := n.epochs[at]
	if epoch < n.epoch || ok && old > epoch || ok && old == epoch && n.bytes[at] != b {
		return false
	}
	n.epochs[at], n.bytes[at] = epoch, b
	return true
}

func fresh() *node { return &node{epochs: map[int]int{}, bytes: map[int]string{}} }

// model is a log by the words of the document.
type model struct {
	nodes    []*node
	open     bool
	epoch    int
	payloads []string
}

func (m *model) each(reach []bool, call func(n *node) bool) bool {
	fine := 0
	for i, n := range m.nodes {
		if i < len(reach) && reach[i] && call(n) {
			fine++
		}
	}
	return 2*fine > len(m.nodes)
}

func (m *model) reopen(reach []bool) bool {
	m.epoch++
	m.open = false
	cells, epochs := map[int]string{}, map[int]int{}
	size := 0
	if !m.each(reach, func(n *node) bool {
		if m.epoch <= n.epoch {
			return false
		}
		n.epoch = m.epoch
		for at, e := range n.epochs {
			if old, ok := epochs[at]; !ok || e > old {
				epochs[at], cells[at] = e, n.bytes[at]
			}
			size = max(size, at+1)
		}
		return true
	}) {
		return false
	}
	payloads := make([]string, size)
	for at := range payloads {
		payloads[at] = cells[at]
		if !m.each(reach, func(n *node) bool { return n.write(m.epoch, at, payloads[at]) }) {
			return false
		}
	}
	m.payloads, m.open = payloads, true
	return true
}

func (m *model) add(b string, reach []bool) bool {
	if !m.open {
		return false
	}
	m.open = m.each(reach, func(n *node) bool { return n.write(m.epoch, len(m.payloads), b) })
	if m.open {
		m.payloads = append(m.payloads, b)
	}
	return m.open
}

func TestAgainstTheWords(t *testing.T) { // P10.2 to P10.5
	rnd := rand.New(rand.NewSource(1))
	for round := range 300 {
		n := []int{1, 3, 5, 7}[rnd.Intn(4)]
		l := open(t, n, 1<<20)
		m := &model{}
		for range n {
			m.nodes = append(m.nodes, fresh())
		}
		lossy := round%3 == 0
		var acked []string
		for range 60 {
			at := make([]bool, rnd.Intn(n+2))
			for i := range at {
				at[i] = rnd.Intn(4) > 0
			}
			switch rnd.Intn(6) {
			case 0, 1:
				if err := l.Open(at); (err == api.OK) != m.reopen(at) || err != api.OK && err != api.ErrDown {
					t.Fatal(err)
				} else if err == api.OK {
					acked = m.payloads[:len(m.payloads):len(m.payloads)]
				}
			case 2, 3, 4:
				b := []byte{byte(rnd.Intn(256)), byte(rnd.Intn(256))}
				i, err := l.Append(b, at)
				if ok := m.add(string(b), at); ok != (err == api.OK) || ok && i != len(m.payloads)-1 || !ok && (i != 0 || err != api.ErrDown) {
					t.Fatal(i, err)
				}
				if err == api.OK {
					acked = append(m.payloads[:i:i], string(b))
				}
			case 5:
				i := rnd.Intn(n)
				if lossy && rnd.Intn(8) == 0 {
					l.Lose(i)
					m.nodes[i] = fresh()
				} else {
					l.Crash(i, rnd.Intn(9), rnd.Intn(9))
				}
			}
			if l.Len() != len(m.payloads) || l.Epoch() != m.epoch {
				t.Fatal(l.Len(), len(m.payloads), l.Epoch(), m.epoch)
			}
			for i, want := range m.payloads {
				if got, err := l.Get(i); string(got) != want || err != api.OK {
					t.Fatal(i, got, err)
				}
			}
			for i, want := range acked { // P10.5
				if got, err := l.Get(i); !lossy && (string(got) != want || err != api.OK) {
					t.Fatal("lost", i, got, err)
				}
			}
		}
	}
}

package slot_test

import (
	"bytes"
	"fmt"
	"math"
	"math/rand"
	"slices"
	"testing"

	"tidemill/api"
	"tidemill/disk"
	"tidemill/pack"
	"tidemill/seg"
	"tidemill/slot"
)

const most = 1 << 20

func newDisk(room int) *disk.Disk {
	d, _ := disk.New(room)
	return d
}

func write(epoch, at int, b ...byte) []byte {
	return pack.Bytes(pack.Uint(pack.Uint([]byte{1}, uint64(epoch)), uint64(at)), b)
}

func seal(epoch int) []byte { return pack.Uint([]byte{2}, uint64(epoch)) }

func cell(at, epoch int, b ...byte) api.Cell { return api.Cell{At: at, Epoch: epoch, Bytes: b} }

func same(a, b []api.Cell) bool { return fmt.Sprint(a) == fmt.Sprint(b) }

// has checks the epoch and all cells of a node, which are in ascending order of their slots.
func has(t *testing.T, n *slot.Node, epoch int, cells ...api.Cell) {
	t.Helper()
	tail := 0
	for at := -1; at <= api.MaxSlots; at++ {
		i := slices.IndexFunc(cells, func(c api.Cell) bool { return c.At == at })
		got, err := n.Read(at)
		if i < 0 && (err != api.ErrNone || !same([]api.Cell{got}, []api.Cell{{}})) {
			t.Errorf("slot %d: %v, %d", at, got, err)
		}
		if i >= 0 && (err != api.OK || !same([]api.Cell{got}, cells[i:i+1])) {
			t.Errorf("slot %d: %v, %d; want %v", at, got, err, cells[i])
		}
		if i >= 0 {
			tail = at + 1
		}
	}
	if n.Epoch() != epoch || n.Tail() != tail {
		t.Errorf("epoch %d, tail %d; want %d, %d", n.Epoch(), n.Tail(), epoch, tail)
	}
}

func TestTheExample(t *testing.T) { // P8.1, P8.2
	n := slot.Open(newDisk(1000))
	for k, c := range []struct {
		epoch, at int
		b         byte
		want      api.Errno
	}{{0, 3, 7, api.OK}, {0, 3, 8, api.ErrTaken}} {
		if err := n.Write(c.epoch, c.at, []byte{c.b}); err != c.want {
			t.Error(k, err)
		}
	}
	if cells, err := n.Seal(2); err != api.OK || !same(cells, []api.Cell{cell(3, 0, 7)}) {
		t.Error(cells, err)
	}
	if err := n.Write(1, 4, []byte{9}); err != api.ErrSealed {
		t.Error(err)
	}
	if err := n.Write(2, 3, []byte{8}); err != api.OK {
		t.Error(err)
	}
	has(t, n, 2, cell(3, 2, 8))
}

func TestWriteErrors(t *testing.T) { // P8.1
	n := slot.Open(newDisk(30000))
	n.Seal(5)
	n.Write(9, 0, []byte{1, 2})
	long := make([]byte, 2048)
	for k, c := range []struct {
		epoch, at int
		b         []byte
		want      api.Errno
	}{
		{5, -1, nil, api.ErrRange},
		{5, math.MinInt64, nil, api.ErrRange},
		{5, 4096, nil, api.ErrRange},
		{5, math.MaxInt64, nil, api.ErrRange},
		{-1, 1, nil, api.ErrRange},
		{math.MinInt64, 1, nil, api.ErrRange},
		{most + 1, 1, nil, api.ErrRange},
		{math.MaxInt64, 1, nil, api.ErrRange},
		{5, 1, make([]byte, 2049), api.ErrRange},
		{9, 0, make([]byte, 2049), api.ErrRange},
		{0, 4096, nil, api.ErrRange}, // ahead of ErrSealed
		{4, 1, nil, api.ErrSealed},
		{0, 1, nil, api.ErrSealed},
		{4, 0, []byte{1, 2}, api.ErrSealed}, // ahead of ErrTaken
		{5, 0, []byte{1, 2}, api.ErrTaken},
		{8, 0, []byte{1, 2}, api.ErrTaken},
		{9, 0, []byte{1, 3}, api.ErrTaken},
		{9, 0, []byte{1}, api.ErrTaken},
		{9, 0, []byte{1, 2, 3}, api.ErrTaken},
		{9, 0, nil, api.ErrTaken},
		{9, 0, []byte{1, 2}, api.OK},
		{10, 0, []byte{1, 2}, api.OK},
		{9, 0, []byte{1, 2}, api.ErrTaken},
		{11, 0, nil, api.OK},
		{11, 0, []byte{}, api.OK}, // R2
		{11, 0, []byte{0}, api.ErrTaken},
		{5, 1, long, api.OK},
		{most, 4095, []byte{4}, api.OK},
	} {
		if err := n.Write(c.epoch, c.at, c.b); err != c.want {
			t.Errorf("%d: %d, want %d", k, err, c.want)
		}
	}
	has(t, n, 5, cell(0, 11), cell(1, 5, long...), cell(4095, most, 4))
}

func TestLogging(t *testing.T) { // what is done is first put on the disk, and synced
	d := newDisk(1000)
	n := slot.Open(d)
	var want [][]byte
	logged := func() {
		t.Helper()
		s := seg.Open(d)
		if d.Safe() != len(d.Bytes()) || s.Len() != len(want) {
			t.Fatal(d.Safe(), s.Len())
		}
		for i, w := range want {
			if p, _ := s.Get(i); !bytes.Equal(p, w) {
				t.Fatal(i, p, w)
			}
		}
	}
	step := func(err api.Errno, p []byte) {
		t.Helper()
		if p != nil {
			want = append(want, p)
		}
		if (err == api.OK) != (p != nil) {
			t.Error(err)
		}
		if s := d.Safe(); s != len(d.Bytes()) {
			t.Error("not synced", s)
		}
	}
	step(n.Write(300, 400, []byte{5, 6}), write(300, 400, 5, 6))
	_, err := n.Seal(7)
	step(err, seal(7))
	_, err = n.Seal(7)
	step(err, nil)
	step(n.Write(7, 0, nil), write(7, 0))
	step(n.Write(6, 0, nil), nil)
	if err := n.Write(7, 0, nil); err != api.OK { // puts nothing on the disk
		t.Error(err)
	}
	if err := n.Write(300, 400, []byte{5, 6}); err != api.OK {
		t.Error(err)
	}
	logged()
	has(t, slot.Open(d), 7, cell(0, 7), cell(400, 300, 5, 6))
}

func TestAFullDisk(t *testing.T) { // P8.1, P8.2
	d := newDisk(10) // a write of a byte takes 10
	n := slot.Open(d)
	if err := n.Write(0, 0, []byte{1}); err != api.OK {
		t.Error(err)
	}
	if err := n.Write(0, 1, nil); err != api.ErrFull {
		t.Error(err)
	}
	if err := n.Write(1, 0, nil); err != api.ErrFull {
		t.Error(err)
	}
	if err := n.Write(0, 0, []byte{1}); err != api.OK {
		t.Error(err)
	}
	if cells, err := n.Seal(1); len(cells) != 0 || err != api.ErrFull {
		t.Error(cells, err)
	}
	has(t, n, 0, cell(0, 0, 1))
	has(t, slot.Open(d), 0, cell(0, 0, 1))
	bare := slot.Open(nil)
	if err := bare.Write(0, 0, nil); err != api.ErrFull {
		t.Error(err)
	}
	if err := bare.Write(-1, 0, nil); err != api.ErrRange {
		t.Error(err)
	}
	if cells, err := bare.Seal(1); len(cells) != 0 || err != api.ErrFull {
		t.Error(cells, err)
	}
	has(t, bare, 0)
}

func TestSeal(t *testing.T) { // P8.2
	n := slot.Open(newDisk(3000))
	for _, at := range []int{7, 0, 4095, 300, 2} {
		n.Write(at%3, at, []byte{byte(at)})
	}
	want := []api.Cell{cell(0, 0, 0), cell(2, 2, 2), cell(7, 1, 7), cell(300, 0, 44), cell(4095, 0, 255)}
	for _, c := range []struct {
		epoch int
		want  api.Errno
	}{
		{0, api.ErrSealed}, {-1, api.ErrRange}, {math.MinInt64, api.ErrRange}, {most + 1, api.ErrRange}, {math.MaxInt64, api.ErrRange},
		{1, api.OK}, {1, api.ErrSealed}, {0, api.ErrSealed}, {-1, api.ErrRange}, {2, api.OK}, {most - 1, api.OK}, {most, api.OK}, {most, api.ErrSealed}, {most + 1, api.ErrRange},
	} {
		before := n.Epoch()
		cells, err := n.Seal(c.epoch)
		if err != c.want || err == api.OK && (!same(cells, want) || n.Epoch() != c.epoch) || err != api.OK && (cells != nil || n.Epoch() != before) {
			t.Errorf("Seal(%d): %v, %d", c.epoch, cells, err)
		}
	}
	if cells, err := slot.Open(newDisk(100)).Seal(3); len(cells) != 0 || err != api.OK {
		t.Error(cells, err)
	}
}

func TestRecoveryIgnores(t *testing.T) { // terminology: Recovery
	long := make([]byte, 2048)
	more := func(b []byte, by ...byte) []byte { return append(bytes.Clone(b), by...) }
	for k, c := range []struct {
		payloads [][]byte
		epoch    int
		cells    []api.Cell
	}{
		{[][]byte{write(0, 1, 5), write(0, 1, 6)}, 0, []api.Cell{cell(1, 0, 5)}},
		{[][]byte{write(1, 1, 5), write(0, 1, 6)}, 0, []api.Cell{cell(1, 1, 5)}},
		{[][]byte{write(1, 1, 5), write(2, 1, 6)}, 0, []api.Cell{cell(1, 2, 6)}},
		{[][]byte{seal(2), write(1, 1, 5), write(2, 2, 6), write(3, 3, 7)}, 2, []api.Cell{cell(2, 2, 6), cell(3, 3, 7)}},
		{[][]byte{seal(0), seal(3), seal(3), seal(2)}, 3, nil},
		{[][]byte{seal(most)}, most, nil},
		{[][]byte{seal(most + 1)}, 0, nil},
		{[][]byte{pack.Uint([]byte{2}, math.MaxUint64), pack.Uint([]byte{2}, 1<<32+1)}, 0, nil},
		{[][]byte{write(most, 4095, long...)}, 0, []api.Cell{cell(4095, most, long...)}},
		{[][]byte{write(most+1, 1, 5), write(0, 4096, 5), write(0, 1, append(long, 1)...)}, 0, nil},
		{[][]byte{more([]byte{1, 0}, more(pack.Uint(nil, 1<<32), 1, 5)...), more([]byte{1}, more(pack.Uint(nil, 1<<32), 0, 1, 5)...)}, 0, nil},
		{[][]byte{{}, {0}, {3, 1}, {3, 1, 1, 1, 5}, {0, 1, 1, 1, 5}, {1}, {2}, {128, 0}, {255}}, 0, nil},
		{[][]byte{{1, 0}, {1, 0, 1}, {1, 0, 1, 1}, {1, 0, 1, 2, 5}, {1, 128, 0, 1, 1, 5}, {1, 0, 129, 0, 1, 5}, {1, 0, 1, 129, 0, 5}, {129, 0, 0, 1, 1, 5}}, 0, nil},
		{[][]byte{more(write(0, 1, 5), 0), more(seal(1), 0), {2, 129, 0}, {2, 129}}, 0, nil},
		{[][]byte{pack.Uint(nil, 1<<32+2), more(pack.Uint(nil, 1<<32+2), 1)}, 0, nil},
		{[][]byte{more(write(0, 1, 5), 0), write(0, 2, 7), {9}, seal(4)}, 4, []api.Cell{cell(2, 0, 7)}},
	} {
		d := newDisk(10000)
		s := seg.Open(d)
		for _, p := range c.payloads {
			if err := s.Put(p); err != api.OK {
				t.Fatal(k, err)
			}
		}
		n := slot.Open(d)
		has(t, n, c.epoch, c.cells...)
		if cells, err := n.Seal(c.epoch + 1); c.epoch < most && (err != api.OK || !same(cells, c.cells)) {
			t.Error(k, cells, err)
		}
	}
}

func TestNilNode(t *testing.T) { // P8.2
	var n *slot.Node
	if err := n.Write(-1, -1, make([]byte, 3000)); err != api.ErrDown {
		t.Error(err)
	}
	if err := n.Write(0, 0, nil); err != api.ErrDown {
		t.Error(err)
	}
	if c, err := n.Read(0); !same([]api.Cell{c}, []api.Cell{{}}) || err != api.ErrDown {
		t.Error(c, err)
	}
	if c, err := n.Seal(1); c != nil || err != api.ErrDown {
		t.Error(c, err)
	}
	if n.Epoch() != 0 || n.Tail() != 0 {
		t.Error(n.Epoch(), n.Tail())
	}
	var zero slot.Node
	if err := zero.Write(0, 0, nil); err != api.ErrFull {
		t.Error(err)
	}
	has(t, &zero, 0)
}

func TestNothingIsShared(t *testing.T) { // R3
	n := slot.Open(newDisk(1000))
	b := []byte{1, 2}
	n.Write(0, 1, b)
	b[0] = 99
	c, _ := n.Read(1)
	c.Bytes[0] = 98
	l, _ := n.Seal(1)
	l[0].Bytes[0] = 97
	has(t, n, 1, cell(1, 0, 1, 2))
}

// model is a node by the words of the document.
type model struct {
	epoch int
	cells map[int]api.Cell
}

func TestNodesSurviveCrashes(t *testing.T) { // P8.3, against a plain model
	rnd := rand.New(rand.NewSource(1))
	for range 200 {
		d := newDisk(1500)
		n := slot.Open(d)
		m := model{cells: map[int]api.Cell{}}
		for range 80 {
			epoch, at, b := rnd.Intn(6), rnd.Intn(6), []byte{byte(rnd.Intn(3))}
			old, ok := m.cells[at]
			switch rnd.Intn(5) {
			case 0, 1, 2:
				want := api.OK
				if epoch < m.epoch {
					want = api.ErrSealed
				} else if ok && (old.Epoch > epoch || old.Epoch == epoch && !bytes.Equal(old.Bytes, b)) {
					want = api.ErrTaken
				}
				err := n.Write(epoch, at, b)
				if err != want && (err != api.ErrFull || want != api.OK) {
					t.Fatal(err, want)
				}
				if err == api.OK {
					m.cells[at] = api.Cell{At: at, Epoch: epoch, Bytes: b}
				}
			case 3:
				if rnd.Intn(4) > 0 {
					continue
				}
				_, err := n.Seal(epoch)
				if (err == api.OK) && epoch <= m.epoch || err == api.ErrSealed && epoch > m.epoch {
					t.Fatal(epoch, m.epoch, err)
				}
				if err == api.OK {
					m.epoch = epoch
				}
			case 4:
				d.Crash(rnd.Intn(20), rnd.Intn(9))
				n = slot.Open(d)
			}
			for at := range 6 {
				c, err := n.Read(at)
				want, ok := m.cells[at]
				if (err == api.OK) != ok || ok && !same([]api.Cell{c}, []api.Cell{want}) {
					t.Fatal(at, c, err, want)
				}
			}
			if n.Epoch() != m.epoch {
				t.Fatal(n.Epoch(), m.epoch)
			}
		}
	}
}

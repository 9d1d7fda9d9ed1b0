package seg_test

import (
	"bytes"
	"math"
	"math/rand"
	"reflect"
	"testing"

	"tidemill/api"
	"tidemill/crc"
	"tidemill/disk"
	"tidemill/seg"
)

func newDisk(room int) *disk.Disk {
	d, _ := disk.New(room)
	return d
}

func frame(b ...byte) []byte {
	f, _ := crc.Frame(b)
	return f
}

// has checks the payloads of a segment.
func has(t *testing.T, s *seg.Seg, torn int, want ...[]byte) {
	t.Helper()
	if s.Len() != len(want) || s.Torn() != torn {
		t.Errorf("%d payloads, %d torn; want %d, %d", s.Len(), s.Torn(), len(want), torn)
	}
	for i := -2; i < len(want)+2; i++ {
		got, err := s.Get(i)
		if i < 0 || i >= len(want) {
			if got != nil || err != api.ErrRange {
				t.Errorf("payload %d: %v, %d", i, got, err)
			}
		} else if err != api.OK || !bytes.Equal(got, want[i]) {
			t.Errorf("payload %d: %v, %d; want %v", i, got, err, want[i])
		}
	}
	for _, i := range []int{math.MinInt64, math.MaxInt64} {
		if got, err := s.Get(i); got != nil || err != api.ErrRange {
			t.Errorf("payload %d: %v, %d", i, got, err)
		}
	}
}

func TestPut(t *testing.T) { // P7.1
	d := newDisk(100)
	s := seg.Open(d)
	has(t, s, 0)
	b := []byte{2, 3}
	for _, p := range [][]byte{{1}, nil, b} {
		if err := s.Put(p); err != api.OK {
			t.Error(err)
		}
	}
	b[0] = 9 // R3
	has(t, s, 0, []byte{1}, nil, []byte{2, 3})
	if want := bytes.Join([][]byte{frame(1), frame(), frame(2, 3)}, nil); !bytes.Equal(d.Bytes(), want) {
		t.Error(d.Bytes())
	}
	if d.Safe() != 0 {
		t.Error("a Put syncs nothing:", d.Safe())
	}
	s.Sync()
	if d.Safe() != len(d.Bytes()) {
		t.Error(d.Safe())
	}
	got, _ := s.Get(2)
	got[0] = 9
	has(t, s, 0, []byte{1}, nil, []byte{2, 3})
}

func TestPutErrors(t *testing.T) { // P7.1
	d := newDisk(12)
	s := seg.Open(d)
	for _, c := range []struct {
		n    int
		want api.Errno
	}{
		{4097, api.ErrRange}, // ahead of ErrFull
		{4096, api.ErrFull},
		{8, api.ErrFull},
		{1, api.OK},
		{1, api.OK},
		{0, api.ErrFull},
		{5000, api.ErrRange},
	} {
		if err := s.Put(make([]byte, c.n)); err != c.want {
			t.Errorf("%d bytes: %d", c.n, err)
		}
	}
	has(t, s, 0, []byte{0}, []byte{0})
	if !bytes.Equal(d.Bytes(), append(frame(0), frame(0)...)) {
		t.Error(d.Bytes())
	}
	big := seg.Open(newDisk(1 << 20))
	if err := big.Put(make([]byte, 4096)); err != api.OK {
		t.Error(err)
	}
}

func TestOpenCutsAndSyncs(t *testing.T) { // P7.1
	whole := append(frame(1), frame(2, 3)...)
	for k, c := range []struct {
		tail []byte
		torn int
	}{{nil, 0}, {frame(4)[:3], 3}, {[]byte{9}, 1}, {append([]byte{128, 0}, frame(5)...), 8}} {
		d := newDisk(100)
		d.Append(append(bytes.Clone(whole), c.tail...))
		s := seg.Open(d)
		has(t, s, c.torn, []byte{1}, []byte{2, 3})
		if !bytes.Equal(d.Bytes(), whole) || d.Safe() != len(whole) {
			t.Errorf("%d: %v, %d safe", k, d.Bytes(), d.Safe())
		}
		s.Put([]byte{6})
		has(t, seg.Open(d), 0, []byte{1}, []byte{2, 3}, []byte{6})
		has(t, s, c.torn, []byte{1}, []byte{2, 3}, []byte{6})
	}
	d := newDisk(9)
	d.Append([]byte{7, 7})
	has(t, seg.Open(d), 2)
	if len(d.Bytes()) != 0 {
		t.Error(d.Bytes())
	}
}

func TestTheExample(t *testing.T) { // P7.1
	d := newDisk(100)
	s := seg.Open(d)
	s.Put([]byte{1})
	s.Sync()
	s.Put([]byte{2, 3})
	d.Crash(3, -1)
	has(t, seg.Open(d), 3, []byte{1})
}

func TestNoDisk(t *testing.T) { // P7.1
	for _, s := range []*seg.Seg{nil, seg.Open(nil), {}} {
		for _, n := range []int{0, 1, 5000} {
			if err := s.Put(make([]byte, n)); err != api.ErrFull { // before any other error
				t.Error(n, err)
			}
		}
		s.Sync()
		has(t, s, 0)
	}
	if seg.Open(nil) == nil {
		t.Error("no segment")
	}
}

func TestFaceOfASegment(t *testing.T) { // the disk's own functions are not to be had through a segment
	if n := reflect.TypeFor[*seg.Seg]().NumMethod(); n != 5 {
		t.Error(n)
	}
}

func TestRecovery(t *testing.T) { // P7.2
	rnd := rand.New(rand.NewSource(1))
	for range 1000 {
		d := newDisk(500)
		s := seg.Open(d)
		var put [][]byte
		synced := 0
		for range rnd.Intn(12) {
			b := make([]byte, rnd.Intn(40))
			rnd.Read(b)
			if s.Put(b) == api.OK {
				put = append(put, b)
			}
			if rnd.Intn(4) == 0 {
				s.Sync()
				synced = len(put)
			}
		}
		if rnd.Intn(2) == 0 {
			has(t, seg.Open(d), 0, put...)
			continue
		}
		d.Crash(rnd.Intn(200), rnd.Intn(10)-1)
		n := seg.Open(d).Len()
		if n < synced || n > len(put) {
			t.Fatal(n, synced, len(put))
		}
		has(t, seg.Open(d), 0, put[:n]...)
	}
}

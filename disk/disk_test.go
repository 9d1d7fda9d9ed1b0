package disk_test

import (
	"bytes"
	"math"
	"math/rand"
	"testing"

	"tidemill/api"
	"tidemill/disk"
)

func open(t *testing.T, room int) *disk.Disk {
	d, err := disk.New(room)
	if d == nil || err != api.OK {
		t.Fatal(room, err)
	}
	return d
}

// has checks everything on a disk, and how much of it is durable.
func has(t *testing.T, d *disk.Disk, safe int, want ...byte) {
	t.Helper()
	if !bytes.Equal(d.Bytes(), want) || d.Safe() != safe {
		t.Errorf("%v, %d safe; want %v, %d", d.Bytes(), d.Safe(), want, safe)
	}
}

func TestNew(t *testing.T) { // P6.1
	for _, room := range []int{math.MinInt64, -1, 1<<20 + 1, math.MaxInt64} {
		if d, err := disk.New(room); d != nil || err != api.ErrArg {
			t.Errorf("room %d: %d", room, err)
		}
	}
	for _, room := range []int{0, 1, 100, 1 << 20} {
		d := open(t, room)
		has(t, d, 0)
		if err := d.Append(make([]byte, room+1)); err != api.ErrFull {
			t.Errorf("room %d: %d", room, err)
		}
		if err := d.Append(make([]byte, room)); err != api.OK || len(d.Bytes()) != room {
			t.Errorf("room %d: %d", room, err)
		}
		if err := d.Append([]byte{1}); err != api.ErrFull || len(d.Bytes()) != room {
			t.Errorf("room %d: %d", room, err)
		}
		if err := d.Append(nil); err != api.OK {
			t.Errorf("nothing on a full disk: %d", err)
		}
	}
}

func TestAppend(t *testing.T) { // P6.1
	d := open(t, 5)
	b := []byte{1, 2}
	d.Append(b)
	b[0] = 9 // R3
	has(t, d, 0, 1, 2)
	if err := d.Append([]byte{3, 4, 5, 6}); err != api.ErrFull { // all or nothing
		t.Error(err)
	}
	has(t, d, 0, 1, 2)
	d.Sync()
	has(t, d, 2, 1, 2)
	if err := d.Append([]byte{3, 4, 5}); err != api.OK {
		t.Error(err)
	}
	has(t, d, 2, 1, 2, 3, 4, 5)
	got := d.Bytes()
	got[0] = 9
	_ = append(got[:2], 8)
	has(t, d, 2, 1, 2, 3, 4, 5)
}

func TestCut(t *testing.T) { // P6.1
	for n := -1; n <= 5; n++ {
		d := open(t, 9)
		d.Append([]byte{1, 2})
		d.Sync()
		d.Append([]byte{3, 4})
		err := d.Cut(n)
		if n < 0 || n > 4 {
			if err != api.ErrRange {
				t.Errorf("Cut(%d): %d", n, err)
			}
			has(t, d, 2, 1, 2, 3, 4)
			continue
		}
		if err != api.OK {
			t.Errorf("Cut(%d): %d", n, err)
		}
		has(t, d, min(n, 2), []byte{1, 2, 3, 4}[:n]...)
		d.Append([]byte{7}) // and what is written then isn't durable
		has(t, d, min(n, 2), append([]byte{1, 2, 3, 4}[:n:n], 7)...)
		d.Crash(0, -1)
		has(t, d, min(n, 2), []byte{1, 2}[:min(n, 2)]...)
	}
	d := open(t, 9)
	for _, n := range []int{math.MinInt64, -1, 1, math.MaxInt64} {
		if err := d.Cut(n); err != api.ErrRange {
			t.Errorf("Cut(%d) of nothing: %d", n, err)
		}
	}
	if err := d.Cut(0); err != api.OK {
		t.Error(err)
	}
}

func TestCutMakesRoom(t *testing.T) { // P6.1
	d := open(t, 3)
	d.Append([]byte{1, 2, 3})
	d.Cut(1)
	if err := d.Append([]byte{4, 5}); err != api.OK {
		t.Error(err)
	}
	has(t, d, 0, 1, 4, 5)
	if err := d.Append([]byte{6}); err != api.ErrFull {
		t.Error(err)
	}
}

func TestCrash(t *testing.T) { // P6.2
	for _, c := range []struct {
		keep, turn int
		want       []byte
	}{
		{1, -1, []byte{1, 2, 3}},
		{1, 0, []byte{1, 2, 2}},
		{1, 1, []byte{1, 2, 1}},
		{1, 7, []byte{1, 2, 131}},
		{1, 8, []byte{1, 2, 3}},
		{1, math.MinInt64, []byte{1, 2, 3}},
		{1, math.MaxInt64, []byte{1, 2, 3}},
		{2, 2, []byte{1, 2, 3, 0}},
		{3, 2, []byte{1, 2, 3, 0}},
		{2, -1, []byte{1, 2, 3, 4}},
		{math.MaxInt64, 3, []byte{1, 2, 3, 12}},
		{math.MaxInt64, 9, []byte{1, 2, 3, 4}},
		{0, 0, []byte{1, 2}}, // nothing is kept, nothing inverted
		{-1, 0, []byte{1, 2}},
		{math.MinInt64, 7, []byte{1, 2}},
	} {
		d := open(t, 9)
		d.Append([]byte{1, 2})
		d.Sync()
		d.Append([]byte{3, 4})
		d.Crash(c.keep, c.turn)
		has(t, d, len(c.want), c.want...) // all of it is durable then
		d.Crash(9, 0)
		has(t, d, len(c.want), c.want...)
	}
}

func TestCrashOfWhatIsSynced(t *testing.T) { // P6.2
	d := open(t, 9)
	d.Crash(5, 0)
	has(t, d, 0)
	d.Append([]byte{1})
	d.Sync()
	for turn := range 8 {
		d.Crash(turn, turn)
		has(t, d, 1, 1)
	}
}

func TestLose(t *testing.T) { // P6.2
	d := open(t, 3)
	d.Append([]byte{1, 2})
	d.Sync()
	d.Append([]byte{3})
	d.Lose()
	has(t, d, 0)
	if err := d.Append([]byte{4, 5, 6}); err != api.OK {
		t.Error(err)
	}
	has(t, d, 0, 4, 5, 6)
	if err := d.Append([]byte{7}); err != api.ErrFull {
		t.Error(err)
	}
}

func TestNilDisk(t *testing.T) { // P6.2
	var d *disk.Disk
	for _, b := range [][]byte{nil, {1}} {
		if err := d.Append(b); err != api.ErrFull {
			t.Error(err)
		}
	}
	for _, n := range []int{-1, 0, 1} {
		if err := d.Cut(n); err != api.ErrRange {
			t.Error(err)
		}
	}
	d.Sync()
	d.Crash(1, 1)
	d.Lose()
	if len(d.Bytes()) != 0 || d.Safe() != 0 {
		t.Error(d.Bytes(), d.Safe())
	}
}

func TestDurableBytesSurvive(t *testing.T) { // P6.3, against a plain model
	rnd := rand.New(rand.NewSource(1))
	for range 300 {
		room := rnd.Intn(60)
		d := open(t, room)
		var all []byte
		safe := 0
		for range 60 {
			switch rnd.Intn(7) {
			case 0, 1, 2:
				b := make([]byte, rnd.Intn(20))
				rnd.Read(b)
				err := d.Append(b)
				if (err == api.OK) != (len(all)+len(b) <= room) {
					t.Fatal(err, len(all), len(b), room)
				}
				if err == api.OK {
					all = append(all, b...)
				}
			case 3:
				d.Sync()
				safe = len(all)
			case 4:
				n := rnd.Intn(70) - 5
				if err := d.Cut(n); (err == api.OK) != (n >= 0 && n <= len(all)) {
					t.Fatal(n, len(all), err)
				} else if err == api.OK {
					all, safe = all[:n:n], min(safe, n)
				}
			case 5:
				keep, turn := rnd.Intn(25)-3, rnd.Intn(12)-2
				d.Crash(keep, turn)
				n := min(len(all), safe+max(keep, 0))
				all = bytes.Clone(all[:n])
				if n > safe && turn >= 0 && turn <= 7 {
					all[n-1] ^= 1 << turn
				}
				safe = n
			case 6:
				if rnd.Intn(5) == 0 {
					d.Lose()
					all, safe = nil, 0
				}
			}
			if !bytes.Equal(d.Bytes(), all) || d.Safe() != safe {
				t.Fatal(d.Bytes(), all, d.Safe(), safe)
			}
		}
	}
}

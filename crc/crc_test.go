package crc_test

import (
	"bytes"
	"encoding/binary"
	"hash/crc32"
	"math"
	"math/rand"
	"sync"
	"testing"

	"tidemill/api"
	"tidemill/crc"
	"tidemill/pack"
)

// slowSum follows the words of the document bit by bit.
func slowSum(b []byte) uint32 {
	register := ^uint32(0)
	for _, c := range b {
		for i := range 8 {
			lowest := register & 1
			register >>= 1
			if lowest != uint32(c>>i)&1 {
				register ^= 0x82F63B78
			}
		}
	}
	return ^register
}

// frame lays a frame out by the words of the document.
func frame(b []byte) []byte {
	return binary.LittleEndian.AppendUint32(append(binary.AppendUvarint(nil, uint64(len(b))), b...), slowSum(b))
}

func noise(rnd *rand.Rand, n int) []byte {
	b := make([]byte, n)
	rnd.Read(b)
	return b
}

func same(a, b [][]byte) bool {
	if len(a) != len(b) {
		return false
	}
	for i := range a {
		if !bytes.Equal(a[i], b[i]) {
			return false
		}
	}
	return true
}

func TestSum(t *testing.T) { // P2.1
	if got := crc.Sum([]byte("123456789")); got != 0xE3069283 {
		t.Errorf("%x", got)
	}
	if got := crc.Sum(nil); got != 0 {
		t.Errorf("%x", got)
	}
	for i := range 256 {
		if b := []byte{byte(i)}; crc.Sum(b) != slowSum(b) {
			t.Errorf("%d: %x", i, crc.Sum(b))
		}
	}
	rnd := rand.New(rand.NewSource(1))
	castagnoli := crc32.MakeTable(crc32.Castagnoli)
	for n := range 300 {
		b := noise(rnd, n)
		if got := crc.Sum(b); got != slowSum(b) || got != crc32.Checksum(b, castagnoli) {
			t.Errorf("%d bytes: %x", n, got)
		}
	}
}

func TestSumFromManySides(t *testing.T) { // the table is computed once, whoever comes first
	var all sync.WaitGroup
	for range 8 {
		all.Go(func() {
			if crc.Sum([]byte("123456789")) != 0xE3069283 {
				t.Error("another sum")
			}
		})
	}
	all.Wait()
}

func TestFrame(t *testing.T) { // P2.1
	rnd := rand.New(rand.NewSource(2))
	for _, n := range []int{0, 1, 2, 127, 128, 300, api.MaxBytes - 1, api.MaxBytes} {
		b := noise(rnd, n)
		kept := bytes.Clone(b)
		got, err := crc.Frame(b)
		if err != api.OK || !bytes.Equal(got, frame(kept)) || !bytes.Equal(b, kept) {
			t.Errorf("%d bytes: %v, %d", n, got, err)
		}
	}
	if got, _ := crc.Frame([]byte{7}); len(got) != 6 || got[0] != 1 || got[1] != 7 {
		t.Error(got)
	}
	if got, _ := crc.Frame(nil); !bytes.Equal(got, make([]byte, 5)) {
		t.Error(got)
	}
	for _, n := range []int{api.MaxBytes + 1, 3 * api.MaxBytes} {
		if got, err := crc.Frame(make([]byte, n)); got != nil || err != api.ErrRange {
			t.Errorf("%d bytes: %d, %d", n, len(got), err)
		}
	}
}

func TestOpen(t *testing.T) { // P2.1
	rnd := rand.New(rand.NewSource(3))
	for _, n := range []int{0, 1, 2, 127, 128, 4095, 4096} {
		want := noise(rnd, n)
		f := frame(want)
		for _, more := range [][]byte{nil, {1}, noise(rnd, 50)} {
			b := append(bytes.Clone(f), more...)
			got, length, err := crc.Open(b)
			if err != api.OK || length != len(f) || !bytes.Equal(got, want) {
				t.Errorf("%d bytes: %d, %d", n, length, err)
			}
		}
		for cut := range f {
			got, length, err := crc.Open(f[:cut])
			if got != nil || length != 0 || err != api.ErrShort {
				t.Fatalf("%d bytes, cut at %d: %d, %d", n, cut, length, err)
			}
		}
	}
}

func TestOpenErrors(t *testing.T) { // P2.1
	big := frame(make([]byte, 4097))
	whole := frame([]byte{5, 6})
	for k, c := range []struct {
		b   []byte
		err api.Errno
	}{
		{nil, api.ErrShort},
		{[]byte{128}, api.ErrShort},
		{bytes.Repeat([]byte{255}, 9), api.ErrShort},
		{append(bytes.Repeat([]byte{255}, 9), 2), api.ErrForm},
		{append([]byte{130, 0}, whole[1:]...), api.ErrForm}, // 2 in more bytes than it takes
		{big, api.ErrRange},
		{big[:2], api.ErrRange}, // ahead of ErrShort
		{pack.Uint(nil, 4096), api.ErrShort},
		{pack.Uint(nil, 4097), api.ErrRange},
		{pack.Uint(nil, math.MaxUint64), api.ErrRange},
		{pack.Uint(nil, 1<<63), api.ErrRange},
		{[]byte{1, 7, 0, 0, 0}, api.ErrShort}, // ahead of ErrForm
		{[]byte{1, 7, 0, 0, 0, 0}, api.ErrForm},
		{[]byte{0, 0, 0, 0}, api.ErrShort},
		{[]byte{0, 0, 0, 0, 1}, api.ErrForm},
	} {
		got, length, err := crc.Open(c.b)
		if got != nil || length != 0 || err != c.err {
			t.Errorf("%d: %v, %d, %d; want %d", k, got, length, err, c.err)
		}
	}
	for i := 1; i < len(whole); i++ {
		for bit := range 8 {
			b := bytes.Clone(whole)
			b[i] ^= 1 << bit
			if got, length, err := crc.Open(b); got != nil || length != 0 || err != api.ErrForm {
				t.Errorf("bit %d of byte %d: %v, %d", bit, i, got, err)
			}
		}
	}
}

func TestScan(t *testing.T) { // P2.2, P2.3
	rnd := rand.New(rand.NewSource(4))
	for range 30 {
		var all []byte
		var want [][]byte
		ends := []int{0}
		for range rnd.Intn(6) {
			b := noise(rnd, []int{0, 1, 5, 130}[rnd.Intn(4)])
			f, _ := crc.Frame(b)
			want, all = append(want, b), append(all, f...)
			ends = append(ends, len(all))
		}
		for cut := range len(all) + 1 { // exactly those that are complete
			n := 0
			for n+1 < len(ends) && ends[n+1] <= cut {
				n++
			}
			if got, used := crc.Scan(all[:cut]); used != ends[n] || !same(got, want[:n]) {
				t.Fatalf("cut at %d of %v: %v, %d", cut, ends, got, used)
			}
		}
		if len(want) == 0 {
			continue
		}
		broken := rnd.Intn(len(want))
		b := bytes.Clone(all)
		b[ends[broken+1]-1] ^= 1
		if got, used := crc.Scan(b); used != ends[broken] || !same(got, want[:broken]) {
			t.Fatalf("broken frame %d: %v, %d", broken, got, used)
		}
	}
}

func TestScanStops(t *testing.T) { // P2.2
	one, _ := crc.Frame([]byte{1})
	two, _ := crc.Frame([]byte{2})
	for k, c := range []struct {
		between []byte
		want    int
	}{{nil, 2}, {[]byte{0, 0, 0, 0, 0}, 3}, {[]byte{0}, 1}, {[]byte{255}, 1}, {[]byte{129, 0}, 1}} {
		b := append(append(bytes.Clone(one), c.between...), two...)
		got, used := crc.Scan(b)
		if len(got) != c.want || c.want == 1 && used != len(one) || c.want > 1 && used != len(b) {
			t.Errorf("%d: %v, %d", k, got, used)
		}
	}
	if got, used := crc.Scan(nil); got != nil || used != 0 {
		t.Error(got, used)
	}
	if got, used := crc.Scan([]byte{9, 9, 9}); len(got) != 0 || used != 0 {
		t.Error(got, used)
	}
}

func TestScanOfMuch(t *testing.T) { // P1: what a full disk has is scanned in no time
	b := make([]byte, api.MaxDisk)
	got, used := crc.Scan(b)
	if len(got) != api.MaxDisk/5 || used != api.MaxDisk/5*5 {
		t.Error(len(got), used)
	}
}

func TestPayloadsShareNothing(t *testing.T) { // R3
	b, _ := crc.Frame([]byte{1, 2})
	b = append(b, b...)
	kept := bytes.Clone(b)
	one, _, _ := crc.Open(b)
	all, _ := crc.Scan(b)
	one[0] = 99
	_ = append(one, 98)
	_ = append(all[0], 97, 97, 97, 97)
	all[1][1] = 96
	if !bytes.Equal(b, kept) || !bytes.Equal(all[0], []byte{1, 2}) {
		t.Error(b, all)
	}
}

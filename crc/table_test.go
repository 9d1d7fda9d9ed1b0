package crc

import (
	"bytes"
	"sync"
	"testing"

	"tidemill/api"
)

// forget makes once and the table as they are before the first call of Sum, and again when the test has ended.
func forget(t *testing.T) {
	reset := func() { once, table = sync.Once{}, [256]uint32{} }
	reset()
	t.Cleanup(reset)
}

// answers reports whether Frame, Open and Scan answer what the document says for b and its frame.
func answers(b []byte) bool {
	f, err := Frame(b)
	payload, length, opened := Open(f)
	all, used := Scan(append(bytes.Clone(f), f...))
	return err == api.OK && opened == api.OK && length == len(f) && used == 2*len(f) &&
		bytes.Equal(payload, b) && len(all) == 2 && bytes.Equal(all[0], b) && bytes.Equal(all[1], b)
}

func TestTableIsComputedOnceBySum(t *testing.T) { // Ways
	forget(t)
	Sum(nil)
	for i, got := range table {
		want := uint32(i)
		for range 8 {
			want = want>>1 ^ want&1*polynomial
		}
		if got != want {
			t.Errorf("%d: %x, want %x", i, got, want)
		}
	}
	table[5] = 1
	Sum([]byte{5})
	if table[5] != 1 {
		t.Error("computed a second time")
	}
}

func TestOnlySumTouchesTheTable(t *testing.T) { // Ways
	forget(t)
	if !answers([]byte("123456789")) {
		t.Error("other answers without the table")
	}
	if table != [256]uint32{} {
		t.Error("computed without Sum")
	}
	computed := true
	once.Do(func() { computed = false })
	if computed {
		t.Error("once was used without Sum")
	}
}

func TestNoAnswerIsReadOutOfTheTable(t *testing.T) { // P2.1 to P2.3
	forget(t)
	b := []byte("123456789")
	right, _ := Frame(b)
	wrong := bytes.Clone(right)
	wrong[len(wrong)-1] ^= 1
	Sum(nil)
	for _, c := range []uint32{0, 1, polynomial, ^uint32(0)} {
		for i := range table {
			table[i] = c
		}
		if got := Sum(b); got != 0xE3069283 {
			t.Errorf("%x: %x", c, got)
		}
		if got, _ := Frame(b); !bytes.Equal(got, right) || !answers(b) {
			t.Errorf("%x: %v", c, got)
		}
		if got, length, err := Open(wrong); got != nil || length != 0 || err != api.ErrForm {
			t.Errorf("%x: %v, %d, %d", c, got, length, err)
		}
		if got, used := Scan(wrong); len(got) != 0 || used != 0 {
			t.Errorf("%x: %v, %d", c, got, used)
		}
	}
}

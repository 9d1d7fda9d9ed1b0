package pack_test

import (
	"bytes"
	"math"
	"math/big"
	"math/rand"
	"slices"
	"testing"

	"tidemill/api"
	"tidemill/pack"
)

// groups encodes by the words of the document, with numbers of any size.
func groups(n *big.Int) []byte {
	n = new(big.Int).Set(n)
	var out []byte
	for n.BitLen() > 7 {
		out = append(out, byte(new(big.Int).And(n, big.NewInt(127)).Int64()+128))
		n.Rsh(n, 7)
	}
	return append(out, byte(n.Int64()))
}

func unsigned(n uint64) []byte { return groups(new(big.Int).SetUint64(n)) }

func signed(n int64) []byte {
	x := new(big.Int).Mul(big.NewInt(n), big.NewInt(2))
	if n < 0 {
		x.Neg(x).Sub(x, big.NewInt(1))
	}
	return groups(x)
}

// edges are the numbers about every power of two.
func edges() []uint64 {
	var l []uint64
	for i := range 64 {
		l = append(l, 1<<i-1, 1<<i, 1<<i+1, -(uint64(1) << i))
	}
	return append(l, math.MaxUint64)
}

func repeat(b byte, n int, then ...byte) []byte {
	return append(bytes.Repeat([]byte{b}, n), then...)
}

func TestNumbersAreEncoded(t *testing.T) { // P1.1
	for _, n := range edges() {
		if got := pack.Uint(nil, n); !bytes.Equal(got, unsigned(n)) {
			t.Errorf("Uint %d: %v", n, got)
		}
		if got := pack.Int([]byte{5, 6}, int64(n)); !bytes.Equal(got, append([]byte{5, 6}, signed(int64(n))...)) {
			t.Errorf("Int %d: %v", int64(n), got)
		}
	}
	if got := pack.Uint([]byte{9}, 300); !bytes.Equal(got, []byte{9, 172, 2}) {
		t.Error(got)
	}
	if got := pack.Int(nil, -1); !bytes.Equal(got, []byte{1}) {
		t.Error(got)
	}
	if got := pack.Int(nil, math.MinInt64); !bytes.Equal(got, repeat(255, 9, 1)) {
		t.Error(got)
	}
}

func TestListsAreEncoded(t *testing.T) { // P1.1
	long := bytes.Repeat([]byte{7}, 300)
	for _, c := range []struct{ got, want []byte }{
		{pack.Bytes(nil, nil), []byte{0}},
		{pack.Bytes([]byte{1}, []byte{}), []byte{1, 0}},
		{pack.Bytes([]byte{1}, []byte{2, 3}), []byte{1, 2, 2, 3}},
		{pack.Bytes(nil, long), append([]byte{172, 2}, long...)},
		{pack.Ints(nil, nil), []byte{0}},
		{pack.Ints([]byte{1}, []int{}), []byte{1, 0}},
		{pack.Ints([]byte{1}, []int{0, -1, 300}), []byte{1, 3, 0, 1, 216, 4}},
		{pack.Ints(nil, []int{math.MaxInt64}), append([]byte{1}, signed(math.MaxInt64)...)},
		{pack.Ints(nil, make([]int, 300)), append([]byte{172, 2}, make([]byte, 300)...)},
	} {
		if !bytes.Equal(c.got, c.want) {
			t.Errorf("got %v, want %v", c.got, c.want)
		}
	}
}

func TestEncodingLeavesArgumentsAlone(t *testing.T) { // R3
	for name, add := range map[string]func([]byte) []byte{
		"Uint":  func(b []byte) []byte { return pack.Uint(b, 1) },
		"Int":   func(b []byte) []byte { return pack.Int(b, 1) },
		"Bytes": func(b []byte) []byte { return pack.Bytes(b, []byte{1}) },
		"Ints":  func(b []byte) []byte { return pack.Ints(b, []int{1}) },
	} {
		room := []byte{1, 2, 3, 9, 9, 9, 9, 9, 9, 9, 9, 9, 9, 9, 9, 9, 9, 9}
		got := add(room[:3])
		if !bytes.Equal(room, append([]byte{1, 2, 3}, bytes.Repeat([]byte{9}, 15)...)) {
			t.Errorf("%s wrote behind its argument: %v", name, room)
		}
		got[0] = 77
		if room[0] != 1 {
			t.Errorf("%s shares its argument", name)
		}
	}
}

func TestUintIsRead(t *testing.T) { // P1.2
	for _, c := range []struct {
		b   []byte
		n   uint64
		err api.Errno
	}{
		{nil, 0, api.ErrShort},
		{[]byte{0}, 0, api.OK},
		{[]byte{127}, 127, api.OK},
		{[]byte{128}, 0, api.ErrShort},
		{[]byte{128, 0}, 0, api.ErrForm},
		{[]byte{128, 128, 0}, 0, api.ErrForm},
		{[]byte{128, 128}, 0, api.ErrShort},
		{[]byte{255, 0}, 0, api.ErrForm},
		{[]byte{128, 1}, 128, api.OK},
		{[]byte{172, 2}, 300, api.OK},
		{repeat(255, 8, 127), 1<<63 - 1, api.OK},
		{repeat(255, 8, 0), 0, api.ErrForm},
		{repeat(128, 9), 0, api.ErrShort},
		{repeat(128, 9, 1), 1 << 63, api.OK},
		{repeat(255, 9, 1), math.MaxUint64, api.OK},
		{repeat(255, 9, 0), 0, api.ErrForm},
		{repeat(255, 9, 2), 0, api.ErrForm},
		{repeat(255, 9, 127), 0, api.ErrForm},
		{repeat(255, 9, 128), 0, api.ErrForm},
		{repeat(255, 9, 129), 0, api.ErrForm},
		{repeat(255, 9, 255), 0, api.ErrForm},
		{repeat(128, 9, 255), 0, api.ErrForm},
		{repeat(255, 30), 0, api.ErrForm},
	} {
		for _, more := range [][]byte{nil, {1}, {128, 0, 5}} {
			if c.err == api.ErrShort && more != nil {
				continue
			}
			b := append(bytes.Clone(c.b), more...)
			r := pack.From(b)
			n, err := r.Uint()
			if n != c.n || err != c.err {
				t.Errorf("%v: %d, %d; want %d, %d", b, n, err, c.n, c.err)
			}
			left := len(b)
			if err == api.OK {
				left = len(more)
			}
			if r.Left() != left {
				t.Errorf("%v: %d bytes left, want %d", b, r.Left(), left)
			}
		}
	}
}

func TestIntIsRead(t *testing.T) { // P1.2
	for _, c := range []struct {
		b   []byte
		n   int64
		err api.Errno
	}{
		{[]byte{0}, 0, api.OK},
		{[]byte{1}, -1, api.OK},
		{[]byte{2}, 1, api.OK},
		{[]byte{3}, -2, api.OK},
		{[]byte{216, 4}, 300, api.OK},
		{repeat(255, 9, 1), math.MinInt64, api.OK},
		{append([]byte{254}, repeat(255, 8, 1)...), math.MaxInt64, api.OK},
		{nil, 0, api.ErrShort},
		{[]byte{129}, 0, api.ErrShort},
		{[]byte{129, 0}, 0, api.ErrForm},
		{repeat(255, 9, 3), 0, api.ErrForm},
	} {
		r := pack.From(c.b)
		n, err := r.Int()
		left := 0
		if err != api.OK {
			left = len(c.b)
		}
		if n != c.n || err != c.err || r.Left() != left {
			t.Errorf("%v: %d, %d, %d left; want %d, %d", c.b, n, err, r.Left(), c.n, c.err)
		}
	}
}

func TestBytesAreRead(t *testing.T) { // P1.2
	for _, c := range []struct {
		b, x []byte
		left int
		err  api.Errno
	}{
		{[]byte{0}, nil, 0, api.OK},
		{[]byte{0, 4}, nil, 1, api.OK},
		{[]byte{2, 5, 6}, []byte{5, 6}, 0, api.OK},
		{[]byte{2, 5, 6, 7}, []byte{5, 6}, 1, api.OK},
		{[]byte{2, 5}, nil, 2, api.ErrShort},
		{[]byte{1}, nil, 1, api.ErrShort},
		{nil, nil, 0, api.ErrShort},
		{[]byte{130}, nil, 1, api.ErrShort},
		{[]byte{130, 0, 1, 1}, nil, 4, api.ErrForm},
		{repeat(255, 9, 1), nil, 10, api.ErrShort},
		{repeat(255, 9, 2), nil, 10, api.ErrForm},
		{repeat(255, 8, 127), nil, 9, api.ErrShort},
	} {
		r := pack.From(c.b)
		x, err := r.Bytes()
		if !bytes.Equal(x, c.x) || err != c.err || r.Left() != c.left {
			t.Errorf("%v: %v, %d, %d left", c.b, x, err, r.Left())
		}
		if err != api.OK && x != nil {
			t.Errorf("%v: bytes beside an error", c.b)
		}
	}
}

func TestIntsAreRead(t *testing.T) { // P1.2
	edge := func(n int) []byte { return pack.Ints(nil, []int{4, n}) }
	for k, c := range []struct {
		b    []byte
		most int
		l    []int
		left int
		err  api.Errno
	}{
		{[]byte{0}, 0, nil, 0, api.OK},
		{[]byte{0}, -1, nil, 1, api.ErrRange},
		{[]byte{0}, math.MinInt64, nil, 1, api.ErrRange},
		{[]byte{2, 1, 4, 9}, 2, []int{-1, 2}, 1, api.OK},
		{[]byte{2, 1, 4, 9}, 3, []int{-1, 2}, 1, api.OK},
		{[]byte{2, 1, 4, 9}, 1, nil, 4, api.ErrRange},
		{[]byte{3, 1, 4}, 3, nil, 3, api.ErrShort},
		{[]byte{3, 1, 4}, 2, nil, 3, api.ErrRange},
		{[]byte{3, 1, 129, 0}, 3, nil, 4, api.ErrForm},
		{[]byte{3, 1, 129}, 3, nil, 3, api.ErrShort},
		{nil, 3, nil, 0, api.ErrShort},
		{[]byte{128, 0}, 3, nil, 2, api.ErrForm},
		{repeat(255, 9, 1), math.MaxInt64, nil, 10, api.ErrRange},
		{repeat(255, 8, 127), math.MaxInt64, nil, 9, api.ErrShort},
		{edge(math.MaxInt32), 2, []int{4, math.MaxInt32}, 0, api.OK},
		{edge(math.MinInt32), 2, []int{4, math.MinInt32}, 0, api.OK},
		{edge(math.MaxInt32 + 1), 2, nil, 7, api.ErrRange},
		{edge(math.MinInt32 - 1), 2, nil, 7, api.ErrRange},
		{edge(math.MaxInt64), 2, nil, 12, api.ErrRange},
		{edge(math.MinInt64), 2, nil, 12, api.ErrRange},
		{append(pack.Ints(nil, []int{1 << 40})[:0:0], append([]byte{2}, append(signed(1<<40), 128, 0)...)...), 2, nil, 9, api.ErrRange},
	} {
		r := pack.From(c.b)
		l, err := r.Ints(c.most)
		if !slices.Equal(l, c.l) || err != c.err || r.Left() != c.left {
			t.Errorf("%d: %v of at most %d: %v, %d, %d left", k, c.b, c.most, l, err, r.Left())
		}
		if err != api.OK && l != nil {
			t.Errorf("%d: a list beside an error", k)
		}
	}
}

func TestReadersMoveOn(t *testing.T) { // P1.2
	b := pack.Ints(pack.Bytes(pack.Int(pack.Uint(nil, 300), -300), []byte("ab")), []int{1, 2})
	r := pack.From(append(b, 128, 0))
	if r.Left() != len(b)+2 {
		t.Error(r.Left())
	}
	n, _ := r.Uint()
	i, _ := r.Int()
	x, _ := r.Bytes()
	l, err := r.Ints(2)
	if n != 300 || i != -300 || string(x) != "ab" || !slices.Equal(l, []int{1, 2}) || err != api.OK {
		t.Error(n, i, x, l, err)
	}
	for range 2 { // with an error the position stays
		if _, err := r.Uint(); err != api.ErrForm || r.Left() != 2 {
			t.Error(err, r.Left())
		}
		if _, err := r.Int(); err != api.ErrForm || r.Left() != 2 {
			t.Error(err, r.Left())
		}
		if _, err := r.Bytes(); err != api.ErrForm || r.Left() != 2 {
			t.Error(err, r.Left())
		}
		if _, err := r.Ints(9); err != api.ErrForm || r.Left() != 2 {
			t.Error(err, r.Left())
		}
	}
}

func TestNilReaders(t *testing.T) { // P1.2
	for _, r := range []*pack.Reader{nil, {}, pack.From(nil), pack.From([]byte{})} {
		if r.Left() != 0 {
			t.Error(r.Left())
		}
		if n, err := r.Uint(); n != 0 || err != api.ErrShort {
			t.Error(n, err)
		}
		if n, err := r.Int(); n != 0 || err != api.ErrShort {
			t.Error(n, err)
		}
		if x, err := r.Bytes(); x != nil || err != api.ErrShort {
			t.Error(x, err)
		}
		if l, err := r.Ints(1); l != nil || err != api.ErrShort {
			t.Error(l, err)
		}
	}
}

func TestReadersShareNothing(t *testing.T) { // R3
	b := []byte{2, 5, 6, 2, 7, 8}
	r := pack.From(b)
	other := pack.From(b)
	x, _ := r.Bytes()
	x[0], b[4] = 99, 99
	y, err := r.Bytes()
	if err != api.OK || !bytes.Equal(y, []byte{7, 8}) || b[1] != 5 {
		t.Error(y, b)
	}
	_ = append(x, 1, 1, 1)
	if z, _ := other.Bytes(); !bytes.Equal(z, []byte{5, 6}) || other.Left() != 3 {
		t.Error(z)
	}
}

func TestWhatWasEncodedIsReadBack(t *testing.T) { // P1.3
	rnd := rand.New(rand.NewSource(1))
	for range 2000 {
		u, i := rnd.Uint64()>>rnd.Intn(64), int64(rnd.Uint64())>>rnd.Intn(64)
		x := make([]byte, rnd.Intn(200))
		rnd.Read(x)
		l := make([]int, rnd.Intn(200))
		for k := range l {
			l[k] = int(int32(rnd.Uint32()) >> rnd.Intn(32))
		}
		r := pack.From(pack.Ints(pack.Bytes(pack.Int(pack.Uint(nil, u), i), x), l))
		u2, e1 := r.Uint()
		i2, e2 := r.Int()
		x2, e3 := r.Bytes()
		l2, e4 := r.Ints(200)
		if e1 != 0 || e2 != 0 || e3 != 0 || e4 != 0 || u != u2 || i != i2 || !bytes.Equal(x, x2) || !slices.Equal(l, l2) || r.Left() != 0 {
			t.Fatal(u, i, x, l)
		}
	}
	for _, n := range edges() {
		if got, err := pack.From(pack.Uint(nil, n)).Uint(); got != n || err != api.OK {
			t.Error(n, got, err)
		}
		if got, err := pack.From(pack.Int(nil, int64(n))).Int(); got != int64(n) || err != api.OK {
			t.Error(n, got, err)
		}
	}
}

func TestWhatIsReadIsTheEncoding(t *testing.T) { // P1.3
	rnd := rand.New(rand.NewSource(2))
	for range 20000 {
		b := make([]byte, rnd.Intn(13))
		for i := range b {
			b[i] = []byte{0, 1, 2, 127, 128, 129, 255, byte(rnd.Intn(256))}[rnd.Intn(8)]
		}
		r := pack.From(b)
		n, err := r.Uint()
		used := b[:len(b)-r.Left()]
		if err == api.OK && !bytes.Equal(pack.Uint(nil, n), used) || err != api.OK && len(used) > 0 {
			t.Fatal(b, n, err)
		}
	}
}

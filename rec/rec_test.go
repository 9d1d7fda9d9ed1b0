package rec_test

import (
	"bytes"
	"math"
	"math/rand"
	"reflect"
	"slices"
	"testing"

	"tidemill/api"
	"tidemill/pack"
	"tidemill/rec"
)

const most = 1 << 20

// same compares entries; nil and empty lists are equivalent.
func same(a, b api.Entry) bool {
	return slices.Equal(a.Offs, b.Offs) && slices.Equal(a.Order, b.Order) && reflect.DeepEqual(bare(a), bare(b))
}

func bare(x api.Entry) api.Entry {
	x.Offs, x.Order = nil, nil
	return x
}

// full are entries that use every field of their kinds.
func full() []api.Entry {
	r := api.Record{Key: -1, Val: 300, Time: 7}
	return []api.Entry{
		{Kind: api.EntryInput, Log: 4, Rec: r},
		{Kind: api.EntryData, Task: 1, Epoch: 2, Txn: 3, Log: 4, Rec: r, Del: true},
		{Kind: api.EntryCommit, Task: 1, Epoch: 2, Txn: 3, Offs: []int{5, 0, 300}, Order: []int{0, 2, 1}},
		{Kind: api.EntryAbort, Task: 1, Epoch: 2, Txn: 3},
		{Kind: api.EntryFence, Task: 1, Epoch: 2},
		{Kind: api.EntryHole},
	}
}

// lay encodes an entry by the words of the document, valid or not.
func lay(x api.Entry, del uint64) []byte {
	var b []byte
	for _, n := range []int{x.Kind, x.Task, x.Epoch, x.Txn, x.Log} {
		b = pack.Uint(b, uint64(n))
	}
	b = pack.Int(pack.Int(pack.Int(b, x.Rec.Key), x.Rec.Val), x.Rec.Time)
	return pack.Ints(pack.Ints(pack.Uint(b, del), x.Offs), x.Order)
}

func TestRecord(t *testing.T) { // P3.1
	for _, c := range []struct {
		r api.Record
		b []byte
	}{
		{api.Record{}, []byte{0, 0, 0}},
		{api.Record{Key: 1, Val: -1, Time: 3}, []byte{2, 1, 6}},
		{api.Record{Key: 300, Val: -300, Time: -1}, []byte{216, 4, 215, 4, 1}}, // not checked
	} {
		if got := rec.Record(c.r); !bytes.Equal(got, c.b) {
			t.Errorf("%v: %v", c.r, got)
		}
	}
}

func TestToRecord(t *testing.T) { // P3.1
	nine := bytes.Repeat([]byte{255}, 9)
	at := func(time int64, more ...byte) []byte {
		return append(rec.Record(api.Record{Key: 1, Val: 2, Time: time}), more...)
	}
	for k, c := range []struct {
		b   []byte
		r   api.Record
		err api.Errno
	}{
		{[]byte{2, 1, 6}, api.Record{Key: 1, Val: -1, Time: 3}, api.OK},
		{[]byte{0, 0, 0}, api.Record{}, api.OK},
		{at(api.MaxTime), api.Record{Key: 1, Val: 2, Time: api.MaxTime}, api.OK},
		{at(api.MaxTime + 1), api.Record{}, api.ErrRange},
		{at(-1), api.Record{}, api.ErrRange},
		{at(math.MaxInt64), api.Record{}, api.ErrRange},
		{at(math.MinInt64), api.Record{}, api.ErrRange},
		{at(-1, 0), api.Record{}, api.ErrRange}, // ahead of ErrForm
		{at(0, 0), api.Record{}, api.ErrForm},
		{nil, api.Record{}, api.ErrShort},
		{[]byte{2}, api.Record{}, api.ErrShort},
		{[]byte{2, 1}, api.Record{}, api.ErrShort},
		{[]byte{2, 1, 128}, api.Record{}, api.ErrShort},
		{[]byte{128, 0, 128}, api.Record{}, api.ErrForm},
		{[]byte{2, 128, 0}, api.Record{}, api.ErrForm},
		{[]byte{2, 1, 128, 0}, api.Record{}, api.ErrForm},
		{append([]byte{2, 1}, append(nine, 2)...), api.Record{}, api.ErrForm},
	} {
		if r, err := rec.ToRecord(c.b); r != c.r || err != c.err {
			t.Errorf("%d: %v: %v, %d", k, c.b, r, err)
		}
	}
}

func TestMay(t *testing.T) { // P3.2
	for _, x := range full() {
		if !rec.May(x) || !rec.May(api.Entry{Kind: x.Kind}) {
			t.Errorf("kind %d", x.Kind)
		}
	}
	for _, kind := range []int{math.MinInt64, -1, 0, 7, 8, 1000, math.MaxInt64} {
		if rec.May(api.Entry{Kind: kind}) {
			t.Errorf("kind %d", kind)
		}
	}
	if rec.May(api.Entry{}) {
		t.Error("the zero entry")
	}
}

// fields are what each kind uses, with a way to set the field.
var fields = []struct {
	name  string
	kinds []int
	set   func(*api.Entry)
}{
	{"Task", []int{2, 3, 4, 5}, func(x *api.Entry) { x.Task = 1 }},
	{"Epoch", []int{2, 3, 4, 5}, func(x *api.Entry) { x.Epoch = 1 }},
	{"Txn", []int{2, 3, 4}, func(x *api.Entry) { x.Txn = 1 }},
	{"Log", []int{1, 2}, func(x *api.Entry) { x.Log = 1 }},
	{"Key", []int{1, 2}, func(x *api.Entry) { x.Rec.Key = 1 }},
	{"Val", []int{1, 2}, func(x *api.Entry) { x.Rec.Val = -1 }},
	{"Time", []int{1, 2}, func(x *api.Entry) { x.Rec.Time = 1 }},
	{"Del", []int{2}, func(x *api.Entry) { x.Del = true }},
	{"Offs", []int{3}, func(x *api.Entry) { x.Offs = []int{0} }},
	{"Order", []int{3}, func(x *api.Entry) { x.Order = []int{0} }},
}

func TestUnusedFields(t *testing.T) { // P3.2
	for _, f := range fields {
		for kind := 1; kind <= 6; kind++ {
			x := api.Entry{Kind: kind}
			f.set(&x)
			want := slices.Contains(f.kinds, kind)
			if rec.May(x) != want {
				t.Errorf("kind %d with %s: %v", kind, f.name, !want)
			}
			del := uint64(0)
			if x.Del {
				del = 1
			}
			b, err := rec.Entry(x)
			y, err2 := rec.ToEntry(lay(x, del))
			if want && (err != api.OK || err2 != api.OK || !same(x, y)) {
				t.Errorf("kind %d with %s: %d, %d", kind, f.name, err, err2)
			}
			if !want && (b != nil || err != api.ErrArg || err2 != api.ErrForm || !same(y, api.Entry{})) {
				t.Errorf("kind %d with %s: %d, %d", kind, f.name, err, err2)
			}
		}
	}
	for _, x := range full() { // whatever the kind uses beside it
		for _, f := range fields {
			y := x
			f.set(&y)
			if want := slices.Contains(f.kinds, x.Kind); rec.May(y) != want {
				t.Errorf("kind %d, full, with %s: %v", x.Kind, f.name, !want)
			}
		}
	}
	if x := (api.Entry{Kind: api.EntryHole, Offs: []int{}, Order: []int{}}); !rec.May(x) {
		t.Error("empty lists are no lists") // R2
	}
}

func TestRanges(t *testing.T) { // P3.2
	data := func(set func(*api.Entry)) api.Entry {
		x := api.Entry{Kind: api.EntryData}
		set(&x)
		return x
	}
	commit := func(offs, order []int) api.Entry {
		return api.Entry{Kind: api.EntryCommit, Offs: offs, Order: order}
	}
	for _, n := range []int{math.MinInt64, -most, -1, 0, 1, most - 1, most, most + 1, math.MaxInt32, math.MaxInt64} {
		want := n >= 0 && n <= most
		for k, x := range []api.Entry{
			data(func(x *api.Entry) { x.Task = n }), data(func(x *api.Entry) { x.Epoch = n }),
			data(func(x *api.Entry) { x.Txn = n }), data(func(x *api.Entry) { x.Log = n }),
			commit([]int{0, n, 0}, nil), commit(nil, []int{0, n}), commit([]int{n}, []int{1}), commit([]int{1}, []int{n}),
			{Kind: api.EntryInput, Log: n}, {Kind: api.EntryAbort, Epoch: n}, {Kind: api.EntryFence, Task: n},
		} {
			_, err := rec.Entry(x)
			if rec.May(x) != want || (err == api.OK) != want {
				t.Errorf("%d: %d: %v, %d", k, n, rec.May(x), err)
			}
		}
	}
	for _, time := range []int64{math.MinInt64, -1, 0, api.MaxTime, api.MaxTime + 1, math.MaxInt64} {
		x := data(func(x *api.Entry) { x.Rec.Time = time })
		if rec.May(x) != (time >= 0 && time <= api.MaxTime) {
			t.Errorf("time %d", time)
		}
	}
	for _, n := range []int{0, 7, 8, 9, 255, 256, 257} {
		if rec.May(commit(make([]int, n), nil)) != (n <= 8) || rec.May(commit(nil, make([]int, n))) != (n <= 256) {
			t.Errorf("%d elements", n)
		}
	}
}

func TestEntry(t *testing.T) { // P3.2
	for _, c := range []struct {
		x api.Entry
		b []byte
	}{
		{full()[0], []byte{1, 0, 0, 0, 4, 1, 216, 4, 14, 0, 0, 0}},
		{full()[1], []byte{2, 1, 2, 3, 4, 1, 216, 4, 14, 1, 0, 0}},
		{full()[2], []byte{3, 1, 2, 3, 0, 0, 0, 0, 0, 3, 10, 0, 216, 4, 3, 0, 4, 2}},
		{full()[3], []byte{4, 1, 2, 3, 0, 0, 0, 0, 0, 0, 0}},
		{full()[4], []byte{5, 1, 2, 0, 0, 0, 0, 0, 0, 0, 0}},
		{full()[5], []byte{6, 0, 0, 0, 0, 0, 0, 0, 0, 0, 0}},
		{api.Entry{Kind: api.EntryData, Task: 300}, []byte{2, 172, 2, 0, 0, 0, 0, 0, 0, 0, 0, 0}},
	} {
		if got, err := rec.Entry(c.x); err != api.OK || !bytes.Equal(got, c.b) {
			t.Errorf("%v: %v, %d", c.x, got, err)
		}
		if got, err := rec.ToEntry(c.b); err != api.OK || !same(got, c.x) {
			t.Errorf("%v: %v, %d", c.b, got, err)
		}
	}
	if b, err := rec.Entry(api.Entry{Kind: 7}); b != nil || err != api.ErrArg {
		t.Error(b, err)
	}
}

func TestToEntryIsShort(t *testing.T) { // P3.2
	for _, x := range full() {
		b, _ := rec.Entry(x)
		for n := range b {
			if y, err := rec.ToEntry(b[:n]); err != api.ErrShort || !same(y, api.Entry{}) {
				t.Errorf("%v: %v, %d", b[:n], y, err)
			}
		}
		if y, err := rec.ToEntry(append(b, 0)); err != api.ErrForm || !same(y, api.Entry{}) {
			t.Errorf("a byte behind %v: %v, %d", b, y, err)
		}
	}
}

func TestToEntryErrors(t *testing.T) { // P3.2
	hole := []byte{6, 0, 0, 0, 0, 0, 0, 0, 0, 0, 0}
	set := func(at int, by ...byte) []byte { return slices.Replace(slices.Clone(hole), at, at+1, by...) }
	long := func(at, n int) []byte {
		return set(at, append(pack.Uint(nil, uint64(n)), make([]byte, n)...)...)
	}
	huge := func(at int, n uint64) []byte { return set(at, pack.Uint(nil, n)...) }
	commit := func(b []byte) []byte { b[0] = 3; return b }
	data := func(b []byte) []byte { b[0] = 2; return b }
	for k, c := range []struct {
		b   []byte
		err api.Errno
	}{
		{commit(long(9, 8)), api.OK},
		{commit(long(9, 9)), api.ErrRange},
		{commit(huge(9, 9)), api.ErrRange}, // ahead of ErrShort
		{commit(long(10, 256)), api.OK},
		{commit(long(10, 257)), api.ErrRange},
		{commit(set(9, append([]byte{1}, pack.Int(nil, most)...)...)), api.OK},
		{commit(set(9, append([]byte{1}, pack.Int(nil, most+1)...)...)), api.ErrForm},
		{commit(set(9, append([]byte{1}, pack.Int(nil, 1<<31-1)...)...)), api.ErrForm},
		{commit(set(9, append([]byte{1}, pack.Int(nil, 1<<31)...)...)), api.ErrRange},
		{commit(set(9, 1, 1)), api.ErrForm}, // -1
		{commit(set(10, append([]byte{1}, pack.Int(nil, 1<<40)...)...)), api.ErrRange},
		{commit(set(10, 1, 1)), api.ErrForm},
		{data(set(8, 0)), api.OK},
		{data(set(8, 1)), api.OK},
		{data(set(8, 2)), api.ErrForm},
		{data(huge(8, math.MaxUint64)), api.ErrForm},
		{data(huge(8, 1<<32)), api.ErrForm},
		{data(huge(8, 1<<32+1)), api.ErrForm},
		{append(data(set(8, 2)), 9), api.ErrForm},
		{data(set(8, 2))[:9], api.ErrShort}, // ahead of ErrForm
		{set(0, 0), api.ErrForm},
		{set(0, 7), api.ErrForm},
		{set(0, 7)[:5], api.ErrShort},
		{data(set(7, pack.Int(nil, api.MaxTime)...)), api.OK},
		{data(set(7, pack.Int(nil, api.MaxTime+1)...)), api.ErrForm},
		{data(set(7, 1)), api.ErrForm},
		{commit(set(1, 128, 0)), api.ErrForm},
		{nil, api.ErrShort},
	} {
		x, err := rec.ToEntry(c.b)
		if err != c.err || err != api.OK && !same(x, api.Entry{}) {
			t.Errorf("%d: %v: %v, %d; want %d", k, c.b, x, err, c.err)
		}
	}
	for at := range 5 { // numbers above 2^20, also those that would wrap round into the range
		for _, n := range []uint64{most + 1, 1 << 32, 1<<32 + 2, 1 << 63, 1<<63 + 2, math.MaxUint64 - 1, math.MaxUint64} {
			if x, err := rec.ToEntry(huge(at, n)); err != api.ErrForm || !same(x, api.Entry{}) {
				t.Errorf("%d at %d: %v, %d", n, at, x, err)
			}
		}
		if at > 0 {
			if x, err := rec.ToEntry(data(huge(at, most))); err != api.OK || x.Task+x.Epoch+x.Txn+x.Log != most {
				t.Errorf("2^20 at %d: %v, %d", at, x, err)
			}
		}
	}
	for at := range hole { // a number that isn't one, at each place
		if _, err := rec.ToEntry(set(at, 128, 0)); err != api.ErrForm {
			t.Errorf("at %d: %d", at, err)
		}
	}
}

// anyEntry is some entry, often valid.
func anyEntry(rnd *rand.Rand) api.Entry {
	n := func() int { return rnd.Intn(most+1) >> rnd.Intn(21) }
	x := api.Entry{Kind: 1 + rnd.Intn(6)}
	for _, f := range fields {
		if slices.Contains(f.kinds, x.Kind) && rnd.Intn(4) > 0 {
			f.set(&x)
		}
	}
	if x.Task > 0 {
		x.Task = n()
	}
	if x.Log > 0 {
		x.Log = n()
	}
	if x.Rec.Key > 0 {
		x.Rec.Key, x.Rec.Val = int64(rnd.Uint64()), int64(rnd.Uint64())
	}
	for len(x.Offs) > 0 && len(x.Offs) < 8 && rnd.Intn(3) > 0 {
		x.Offs = append(x.Offs, n())
	}
	for len(x.Order) > 0 && len(x.Order) < 256 && rnd.Intn(9) > 0 {
		x.Order = append(x.Order, n())
	}
	return x
}

func TestRoundTrips(t *testing.T) { // P3.3
	rnd := rand.New(rand.NewSource(1))
	for range 3000 {
		r := api.Record{Key: int64(rnd.Uint64()) >> rnd.Intn(64), Val: int64(rnd.Uint64()), Time: rnd.Int63n(api.MaxTime + 1)}
		if got, err := rec.ToRecord(rec.Record(r)); got != r || err != api.OK {
			t.Fatal(r, got, err)
		}
		x := anyEntry(rnd)
		b, err := rec.Entry(x)
		if got, err2 := rec.ToEntry(b); err != api.OK || err2 != api.OK || !same(got, x) {
			t.Fatal(x, got, err, err2)
		}
		if len(b) == 0 {
			t.Fatal(x)
		}
		b[rnd.Intn(len(b))] ^= 1 << rnd.Intn(8) // whatever is decoded is encoded as the same bytes
		if got, err := rec.ToEntry(b); err == api.OK {
			if again, err := rec.Entry(got); err != api.OK || !bytes.Equal(again, b) || !rec.May(got) {
				t.Fatal(b, got, again, err)
			}
		} else if !same(got, api.Entry{}) {
			t.Fatal(b, got, err)
		}
		if got, err := rec.ToRecord(b); err == api.OK && !bytes.Equal(rec.Record(got), b) {
			t.Fatal(b, got)
		}
	}
}

func TestArgumentsStay(t *testing.T) { // R3
	x := full()[2]
	b, _ := rec.Entry(x)
	kept := bytes.Clone(b)
	y, _ := rec.ToEntry(b)
	y.Offs[0], y.Order[0] = 99, 99
	_ = append(y.Offs, 98)
	if !same(x, full()[2]) || !bytes.Equal(b, kept) || !slices.Equal(y.Order[1:], []int{2, 1}) {
		t.Error(x, b, y)
	}
}

package expr_test

import (
	"bytes"
	"math"
	"math/big"
	"math/rand"
	"reflect"
	"testing"

	"tidemill/api"
	"tidemill/expr"
	"tidemill/pack"
)

var kids = map[int]int{
	api.OpConst: 0, api.OpKey: 0, api.OpVal: 0, api.OpTime: 0, api.OpAcc: 0,
	api.OpAdd: 2, api.OpSub: 2, api.OpMul: 2, api.OpDiv: 2, api.OpMod: 2, api.OpLess: 2, api.OpSame: 2,
	api.OpIf: 3, api.OpNeg: 1, api.OpMin: 2, api.OpMax: 2,
}

func con(n int64) api.Expr                 { return api.Expr{Op: api.OpConst, N: n} }
func op(op int, kids ...api.Expr) api.Expr { return api.Expr{Op: op, Kids: kids} }

// deep is an expression of so many levels.
func deep(levels int) api.Expr {
	e := op(api.OpVal)
	for range levels - 1 {
		e = op(api.OpNeg, e)
	}
	return e
}

// wide is an expression of so many expressions, of few levels.
func wide(nodes int) api.Expr {
	switch nodes {
	case 1:
		return op(api.OpVal)
	case 2:
		return op(api.OpNeg, op(api.OpKey))
	}
	left := (nodes - 1) / 2
	return op(api.OpAdd, wide(left), wide(nodes-1-left))
}

// any is some valid expression of at most so many levels.
func anyExpr(rnd *rand.Rand, levels int) api.Expr {
	o := 1 + rnd.Intn(16)
	if levels == 1 || rnd.Intn(5) == 0 {
		o = 1 + rnd.Intn(5)
	}
	e := api.Expr{Op: o}
	if o == api.OpConst {
		e.N = []int64{0, 1, -1, 2, math.MinInt64, math.MaxInt64, rnd.Int63(), rnd.Int63n(9) - 4}[rnd.Intn(8)]
	}
	for range kids[o] {
		e.Kids = append(e.Kids, anyExpr(rnd, levels-1))
	}
	return e
}

func nodes(e api.Expr) int {
	n := 1
	for _, k := range e.Kids {
		n += nodes(k)
	}
	return n
}

// wrap is a number modulo 2^64, signed.
func wrap(x *big.Int) int64 {
	return int64(new(big.Int).And(x, new(big.Int).SetUint64(math.MaxUint64)).Uint64())
}

// slow evaluates by the words of the document, with numbers of any size; ok is false at a division by 0.
func slow(e api.Expr, r api.Record, acc int64) (n int64, ok bool) {
	var v []int64
	see := func(i int) bool {
		n, ok := slow(e.Kids[i], r, acc)
		v = append(v, n)
		return ok
	}
	if e.Op == api.OpIf {
		if !see(0) {
			return 0, false
		}
		next := 2
		if v[0] != 0 {
			next = 1
		}
		return slow(e.Kids[next], r, acc)
	}
	for i := range e.Kids {
		if !see(i) {
			return 0, false
		}
	}
	var b []*big.Int
	for _, n := range v {
		b = append(b, big.NewInt(n))
	}
	truth := map[bool]int64{true: 1}
	switch e.Op {
	case api.OpConst:
		return e.N, true
	case api.OpKey:
		return r.Key, true
	case api.OpVal:
		return r.Val, true
	case api.OpTime:
		return r.Time, true
	case api.OpAcc:
		return acc, true
	case api.OpAdd:
		return wrap(new(big.Int).Add(b[0], b[1])), true
	case api.OpSub:
		return wrap(new(big.Int).Sub(b[0], b[1])), true
	case api.OpMul:
		return wrap(new(big.Int).Mul(b[0], b[1])), true
	case api.OpNeg:
		return wrap(new(big.Int).Neg(b[0])), true
	case api.OpDiv, api.OpMod:
		if v[1] == 0 {
			return 0, false
		}
		quo, rem := new(big.Int).QuoRem(b[0], b[1], new(big.Int))
		if e.Op == api.OpDiv {
			return wrap(quo), true
		}
		return wrap(rem), true
	case api.OpLess:
		return truth[v[0] < v[1]], true
	case api.OpSame:
		return truth[v[0] == v[1]], true
	case api.OpMin:
		return min(v[0], v[1]), true
	}
	return max(v[0], v[1]), true
}

func TestMay(t *testing.T) { // P4.1
	for o, n := range kids {
		for have := range 5 {
			e := api.Expr{Op: o}
			for range have {
				e.Kids = append(e.Kids, con(1))
			}
			if expr.May(e) != (have == n) {
				t.Errorf("operation %d with %d kids", o, have)
			}
			e.N = 1
			if expr.May(e) != (have == n && o == api.OpConst) {
				t.Errorf("operation %d with %d kids and N", o, have)
			}
		}
	}
	for _, o := range []int{math.MinInt64, -1, 0, 17, 18, math.MaxInt64} {
		for n := range 4 {
			if expr.May(op(o, make([]api.Expr, n)...)) {
				t.Errorf("operation %d", o)
			}
		}
	}
	if expr.May(api.Expr{}) {
		t.Error("the zero expression")
	}
	if !expr.May(api.Expr{Op: api.OpVal, Kids: []api.Expr{}}) {
		t.Error("empty kids are no kids") // R2
	}
	for _, n := range []int64{0, -1, math.MinInt64, math.MaxInt64} {
		if !expr.May(con(n)) {
			t.Errorf("constant %d", n)
		}
	}
}

func TestMayLooksAtAllKids(t *testing.T) { // P4.1
	bad := []api.Expr{{}, {Op: 17}, {Op: api.OpKey, N: 1}, op(api.OpNeg), op(api.OpVal, con(1))}
	for o, n := range kids {
		for at := range n {
			for _, b := range bad {
				e := api.Expr{Op: o}
				for range n {
					e.Kids = append(e.Kids, con(1))
				}
				e.Kids[at] = b
				if expr.May(e) || expr.May(op(api.OpNeg, e)) {
					t.Errorf("operation %d with %v at %d", o, b, at)
				}
			}
		}
	}
}

func TestLimits(t *testing.T) { // P4.1
	for n := 1; n <= 70; n++ {
		if expr.May(deep(n)) != (n <= 16) {
			t.Errorf("%d levels", n)
		}
		if expr.May(wide(n)) != (n <= 64) {
			t.Errorf("%d expressions", n)
		}
	}
	if expr.May(op(api.OpAdd, con(1), deep(16))) || !expr.May(op(api.OpAdd, deep(15), deep(15))) {
		t.Error("levels in a second kid")
	}
	if expr.May(op(api.OpIf, wide(21), wide(21), wide(22))) || !expr.May(op(api.OpIf, wide(21), wide(21), wide(21))) {
		t.Error("expressions over several kids")
	}
	if expr.May(deep(1 << 16)) {
		t.Error("far too deep")
	}
	kids := []api.Expr{con(1), con(1)}
	for range 60 { // as a tree it would be far too large to look at all of it
		e := op(api.OpAdd, kids...)
		kids = []api.Expr{e, e}
		expr.May(e)
	}
}

func TestUses(t *testing.T) { // P4.1
	rnd := rand.New(rand.NewSource(1))
	var has func(e api.Expr, o int) bool
	has = func(e api.Expr, o int) bool {
		for _, k := range e.Kids {
			if has(k, o) {
				return true
			}
		}
		return e.Op == o
	}
	for range 500 {
		e := anyExpr(rnd, 5)
		for o := -1; o < 20; o++ {
			if expr.Uses(e, o) != has(e, o) {
				t.Fatal(e, o)
			}
		}
	}
	odd := api.Expr{Op: 99, N: 44, Kids: []api.Expr{{}, {}, {Op: -7}, {Op: api.OpVal, Kids: []api.Expr{{Op: 55}}}}}
	for o, want := range map[int]bool{99: true, 0: true, -7: true, api.OpVal: true, 55: true, api.OpKey: false, 44: false} {
		if expr.Uses(odd, o) != want {
			t.Error(o)
		}
	}
	if !expr.Uses(deep(1<<16), api.OpVal) || expr.Uses(deep(1<<16), api.OpKey) {
		t.Error("a deep one")
	}
}

func TestEval(t *testing.T) { // P4.2
	val := op(api.OpVal)
	least, greatest := con(math.MinInt64), con(math.MaxInt64)
	by := func(o int, a, b int64) api.Expr { return op(o, con(a), con(b)) }
	r := api.Record{Key: 1, Val: 3, Time: 5}
	for k, c := range []struct {
		e   api.Expr
		n   int64
		err api.Errno
	}{
		{con(-9), -9, 0},
		{op(api.OpKey), 1, 0},
		{val, 3, 0},
		{op(api.OpTime), 5, 0},
		{op(api.OpAcc), 77, 0},
		{op(api.OpAdd, con(1), op(api.OpMul, con(2), val)), 7, 0},
		{op(api.OpDiv, con(1), op(api.OpSub, val, con(3))), 0, api.ErrDiv},
		{op(api.OpMod, con(1), op(api.OpSub, val, con(3))), 0, api.ErrDiv},
		{op(api.OpIf, op(api.OpKey), con(1), by(api.OpDiv, 1, 0)), 1, 0},
		{op(api.OpIf, con(0), by(api.OpDiv, 1, 0), con(2)), 2, 0},
		{op(api.OpIf, con(-1), con(4), by(api.OpMod, 1, 0)), 4, 0},
		{op(api.OpIf, con(0), con(4), by(api.OpMod, 1, 0)), 0, api.ErrDiv},
		{op(api.OpIf, by(api.OpDiv, 1, 0), con(4), con(5)), 0, api.ErrDiv},
		{op(api.OpNeg, by(api.OpDiv, 0, 0)), 0, api.ErrDiv},
		{op(api.OpMul, con(0), by(api.OpDiv, 1, 0)), 0, api.ErrDiv},
		{op(api.OpAdd, by(api.OpDiv, 1, 0), con(0)), 0, api.ErrDiv},
		{op(api.OpAdd, greatest, con(1)), math.MinInt64, 0},
		{op(api.OpSub, least, con(1)), math.MaxInt64, 0},
		{op(api.OpMul, greatest, con(2)), -2, 0},
		{op(api.OpNeg, least), math.MinInt64, 0},
		{op(api.OpDiv, least, con(-1)), math.MinInt64, 0},
		{op(api.OpMod, least, con(-1)), 0, 0},
		{by(api.OpDiv, 7, 2), 3, 0},
		{by(api.OpDiv, -7, 2), -3, 0},
		{by(api.OpDiv, 7, -2), -3, 0},
		{by(api.OpDiv, -7, -2), 3, 0},
		{by(api.OpMod, 7, 2), 1, 0},
		{by(api.OpMod, -7, 2), -1, 0},
		{by(api.OpMod, 7, -2), 1, 0},
		{by(api.OpMod, -7, -2), -1, 0},
		{by(api.OpLess, 1, 2), 1, 0},
		{by(api.OpLess, 2, 2), 0, 0},
		{by(api.OpLess, 3, 2), 0, 0},
		{op(api.OpLess, least, greatest), 1, 0},
		{by(api.OpSame, 2, 2), 1, 0},
		{by(api.OpSame, 2, -2), 0, 0},
		{by(api.OpMin, -2, 1), -2, 0},
		{by(api.OpMin, 1, -2), -2, 0},
		{by(api.OpMax, -2, 1), 1, 0},
		{by(api.OpMax, 1, -2), 1, 0},
		{api.Expr{}, 0, api.ErrArg},
		{op(api.OpAdd, con(1)), 0, api.ErrArg},
		{op(api.OpAdd, by(api.OpDiv, 1, 0), api.Expr{}), 0, api.ErrArg}, // before anything is evaluated
		{op(api.OpIf, con(1), con(1), api.Expr{}), 0, api.ErrArg},
		{deep(17), 0, api.ErrArg},
		{deep(16), -3, 0},
		{wide(65), 0, api.ErrArg},
	} {
		if n, err := expr.Eval(c.e, r, 77); n != c.n || err != c.err {
			t.Errorf("%d: %v: %d, %d; want %d, %d", k, c.e, n, err, c.n, c.err)
		}
	}
}

func TestEvalOfMany(t *testing.T) { // P4.2, P4.4
	rnd := rand.New(rand.NewSource(2))
	seen := map[api.Errno]int{}
	for range 20000 {
		e := anyExpr(rnd, 5)
		if nodes(e) > 64 {
			continue
		}
		r := api.Record{Key: rnd.Int63n(5) - 2, Val: int64(rnd.Uint64()), Time: rnd.Int63n(9)}
		acc := rnd.Int63n(7) - 3
		want, ok := slow(e, r, acc)
		n, err := expr.Eval(e, r, acc)
		seen[err]++
		if n != want || (err == api.OK) != ok || !ok && (err != api.ErrDiv || n != 0) {
			t.Fatal(e, r, acc, n, err, want)
		}
		if !expr.Uses(e, api.OpDiv) && !expr.Uses(e, api.OpMod) && err != api.OK {
			t.Fatal(e, err)
		}
	}
	if seen[api.OK] < 1000 || seen[api.ErrDiv] < 1000 {
		t.Error(seen)
	}
}

func TestBytes(t *testing.T) { // P4.3
	for _, c := range []struct {
		e api.Expr
		b []byte
	}{
		{con(0), []byte{1, 0}},
		{con(-300), []byte{1, 215, 4}},
		{op(api.OpAcc), []byte{5}},
		{op(api.OpNeg, op(api.OpKey)), []byte{14, 2}},
		{op(api.OpSub, op(api.OpKey), con(1)), []byte{7, 2, 1, 2}},
		{op(api.OpIf, op(api.OpVal), con(1), op(api.OpMax, op(api.OpTime), op(api.OpVal))), []byte{13, 3, 1, 2, 16, 4, 3}},
	} {
		if b, err := expr.Bytes(c.e); err != api.OK || !bytes.Equal(b, c.b) {
			t.Errorf("%v: %v, %d", c.e, b, err)
		}
		if e, err := expr.Of(c.b); err != api.OK || !reflect.DeepEqual(e, c.e) {
			t.Errorf("%v: %v, %d", c.b, e, err)
		}
	}
	for _, e := range []api.Expr{{}, {Op: 17}, op(api.OpNeg), deep(17), wide(65), {Op: api.OpKey, N: 1}} {
		if b, err := expr.Bytes(e); b != nil || err != api.ErrArg {
			t.Errorf("%v: %v, %d", e, b, err)
		}
	}
}

// raw encodes what need not be valid.
func raw(e api.Expr) []byte {
	b := pack.Uint(nil, uint64(e.Op))
	if e.Op == api.OpConst {
		b = pack.Int(b, e.N)
	}
	for _, k := range e.Kids {
		b = append(b, raw(k)...)
	}
	return b
}

func TestOfErrors(t *testing.T) { // P4.3
	negs := func(n int, then ...byte) []byte { return append(bytes.Repeat([]byte{14}, n), then...) }
	adds := raw(wide(65)) // its last expression is the 65th one
	for k, c := range []struct {
		b   []byte
		err api.Errno
	}{
		{nil, api.ErrShort},
		{[]byte{0}, api.ErrForm},
		{[]byte{17}, api.ErrForm},
		{[]byte{16}, api.ErrShort},
		{pack.Uint(nil, math.MaxUint64), api.ErrForm},
		{pack.Uint(nil, 1<<32+3), api.ErrForm},
		{[]byte{131, 0}, api.ErrForm},
		{[]byte{128}, api.ErrShort},
		{[]byte{1}, api.ErrShort},
		{[]byte{1, 128}, api.ErrShort},
		{[]byte{1, 128, 0}, api.ErrForm},
		{[]byte{3, 3}, api.ErrForm},
		{[]byte{6, 3}, api.ErrShort},
		{[]byte{6, 3, 3}, api.OK},
		{[]byte{6, 3, 3, 3}, api.ErrForm},
		{[]byte{6, 99, 128}, api.ErrForm}, // in the order of the bytes
		{[]byte{13, 3, 128}, api.ErrShort},
		{[]byte{13, 3, 3}, api.ErrShort},
		{negs(15, 3), api.OK},
		{negs(15), api.ErrShort},
		{negs(16), api.ErrDeep}, // before its Op is read
		{negs(16, 3), api.ErrDeep},
		{negs(16, 99), api.ErrDeep},
		{negs(16, 128, 0), api.ErrDeep},
		{negs(15, 99), api.ErrForm},
		{negs(15, 3, 3), api.ErrForm},
		{negs(100000), api.ErrDeep},
		{raw(wide(64)), api.OK},
		{raw(wide(64))[:63], api.ErrShort},
		{adds, api.ErrDeep},
		{adds[:64], api.ErrDeep},
		{append(bytes.Clone(adds[:64]), 99), api.ErrDeep},
		{adds[:63], api.ErrShort},
	} {
		e, err := expr.Of(c.b)
		if err != c.err || err != api.OK && !reflect.DeepEqual(e, api.Expr{}) {
			t.Errorf("%d: %v, %d; want %d", k, e, err, c.err)
		}
	}
}

func TestRoundTrips(t *testing.T) { // P4.4
	rnd := rand.New(rand.NewSource(3))
	for range 5000 {
		e := anyExpr(rnd, 1+rnd.Intn(6))
		b, err := expr.Bytes(e)
		if (err == api.OK) != (nodes(e) <= 64) {
			t.Fatal(e, err)
		}
		if err != api.OK {
			continue
		}
		if got, err := expr.Of(b); err != api.OK || !reflect.DeepEqual(got, e) {
			t.Fatal(e, got, err)
		}
		b[rnd.Intn(len(b))] = byte(rnd.Intn(19))
		if got, err := expr.Of(b); err == api.OK {
			again, err := expr.Bytes(got)
			if !expr.May(got) || err != api.OK || !bytes.Equal(again, b) {
				t.Fatal(b, got, err)
			}
		}
	}
}

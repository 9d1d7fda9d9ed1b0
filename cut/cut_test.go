package cut_test

import (
	"math"
	"math/rand"
	"reflect"
	"slices"
	"testing"

	"tidemill/api"
	"tidemill/cut"
	"tidemill/topo"
)

var val = api.Expr{Op: api.OpVal}

func vert(kind int, n int64, from ...int) api.Vertex {
	v := api.Vertex{Kind: kind, From: from, N: n}
	if kind != api.VertSource && kind != api.VertSink {
		v.E = val
	}
	return v
}

func source(n int64) api.Vertex         { return vert(api.VertSource, n) }
func sink(n int64, from int) api.Vertex { return vert(api.VertSink, n, from) }
func key(from int) api.Vertex           { return vert(api.VertKey, 0, from) }
func agg(from int) api.Vertex           { return vert(api.VertAgg, 0, from) }
func join(a, b int) api.Vertex          { return vert(api.VertJoin, 0, a, b) }

func lay(parts int, l ...api.Vertex) api.Topo { return api.Topo{Parts: parts, V: l} }

// bad are topologies that are not valid.
func bad() []api.Topo {
	return []api.Topo{{}, lay(0, source(0)), lay(9, source(0)), lay(1), lay(1, sink(0, 0)), lay(2, source(0), source(0)), lay(1, source(0), vert(99, 0, 0))}
}

func TestParts(t *testing.T) { // P16.1
	for k, c := range []struct {
		t      api.Topo
		parts  []int
		inputs [][]int
	}{
		{lay(1, source(0)), []int{0}, [][]int{{0}}},
		{lay(1, source(0), key(0), agg(1), sink(0, 2)), []int{0, 0, 1, 1}, [][]int{{0}, {1}}}, // the example
		{lay(1, source(0), source(1), sink(0, 1), sink(1, 0)), []int{0, 1, 1, 0}, [][]int{{0}, {1}}},
		{lay(1, source(0), source(1), agg(1), join(0, 2)), []int{0, 0, 0, 0}, [][]int{{0, 1}}},
		{lay(1, source(0), key(0)), []int{0, 0}, [][]int{{0}}},                                                                            // nobody reads its log
		{lay(1, source(0), key(0), key(1), key(2), sink(0, 3)), []int{0, 0, 1, 2, 3}, [][]int{{0}, {1}, {2}, {3}}},                        // each reads the one ahead of it
		{lay(1, source(0), key(0), sink(0, 1), sink(1, 1)), []int{0, 0, 1, 2}, [][]int{{0}, {1}, {1}}},                                    // two parts read one log
		{lay(1, source(0), key(0), agg(1), join(0, 2), sink(0, 3)), []int{0, 0, 0, 0, 0}, [][]int{{0, 1}}},                                // the part of the key reads its log
		{lay(1, source(0), key(0), key(0), agg(2), join(1, 3)), []int{0, 0, 0, 1, 1}, [][]int{{0}, {1, 2}}},                               // a part that reads two
		{lay(1, source(0), source(1), source(2), agg(2), join(1, 3), agg(1), join(0, 5)), []int{0, 0, 0, 0, 0, 0, 0}, [][]int{{0, 1, 2}}}, // merged late
		{lay(1, source(3), source(1), key(1), source(2), join(0, 0)), nil, nil},
	} {
		got, err := cut.Parts(c.t)
		_, want := topo.Check(c.t)
		if !slices.Equal(got, c.parts) || err != want || (err == api.OK) != (c.parts != nil) {
			t.Errorf("%d: %v, %d", k, got, err)
		}
		for part := -2; part < len(c.inputs)+2; part++ {
			var want []int
			if part >= 0 && part < len(c.inputs) {
				want = c.inputs[part]
			}
			if got := cut.Inputs(c.t, part); !slices.Equal(got, want) {
				t.Errorf("%d: inputs of part %d: %v", k, part, got)
			}
		}
		for _, part := range []int{math.MinInt64, math.MaxInt64} {
			if got := cut.Inputs(c.t, part); len(got) != 0 {
				t.Errorf("%d: inputs of part %d: %v", k, part, got)
			}
		}
	}
}

func TestTasks(t *testing.T) { // P16.2
	x := lay(3, source(0), key(0), agg(1), sink(0, 2))
	if n := cut.Tasks(x); n != 6 {
		t.Error(n)
	}
	for task, want := range [][2]int{{0, 0}, {0, 1}, {0, 2}, {1, 0}, {1, 1}, {1, 2}} {
		if part, p := cut.Of(x, task); part != want[0] || p != want[1] {
			t.Errorf("task %d: %d, %d", task, part, p)
		}
	}
	for _, task := range []int{math.MinInt64, -1, 6, 7, math.MaxInt64} {
		if part, p := cut.Of(x, task); part != -1 || p != -1 {
			t.Errorf("task %d: %d, %d", task, part, p)
		}
	}
	for parts := 1; parts <= 8; parts++ {
		if n := cut.Tasks(lay(parts, source(0), source(1), source(2))); n != 3*parts {
			t.Error(parts, n)
		}
	}
}

func TestLog(t *testing.T) { // P16.2
	x := lay(3, source(0), key(0), agg(1), sink(0, 2))
	for _, c := range [][4]int{
		{0, 0, 0, 0}, {0, 0, 2, 2}, {0, 1, 0, 3}, {0, 3, 2, 11}, {1, 0, 0, 12}, {1, 2, 1, 19}, {2, 0, 0, 24}, {2, 3, 2, 35},
		{-1, 0, 0, -1}, {3, 0, 0, -1}, {0, -1, 0, -1}, {0, 4, 0, -1}, {0, 0, -1, -1}, {0, 1, -1, -1}, {2, 3, -1, -1}, {0, 0, 3, -1}, {1, 1, 3, -1},
		{-1, 3, 2, -1}, {3, 3, 2, -1}, {1, -1, 2, -1}, {1, 4, 2, -1},
		{math.MaxInt64, 0, 0, -1}, {0, math.MinInt64, 0, -1}, {0, 0, math.MaxInt64, -1},
	} {
		if n := cut.Log(x, c[0], c[1], c[2]); n != c[3] {
			t.Errorf("%v: %d", c, n)
		}
	}
}

func TestPart(t *testing.T) { // P16.2
	x := lay(3, source(0))
	for key, want := range map[int64]int{0: 0, 1: 1, 2: 2, 3: 0, -1: 2, -2: 1, -3: 0, math.MaxInt64: 1, math.MinInt64: 1} {
		if p := cut.Part(x, key); p != want {
			t.Errorf("key %d: %d", key, p)
		}
	}
	for parts := 1; parts <= 8; parts++ {
		x.Parts = parts
		for key := int64(-20); key <= 20; key++ {
			if p := cut.Part(x, key); p < 0 || p >= parts || (int64(p)-key)%int64(parts) != 0 {
				t.Error(parts, key, p)
			}
		}
	}
}

func TestBadTopologies(t *testing.T) { // P16.1, P16.2
	for k, x := range bad() {
		_, want := topo.Check(x)
		if parts, err := cut.Parts(x); parts != nil || err != want || err == api.OK {
			t.Errorf("%d: %v, %d", k, parts, err)
		}
		part, p := cut.Of(x, 0)
		if l := cut.Inputs(x, 0); len(l) != 0 || cut.Tasks(x) != 0 || part != -1 || p != -1 || cut.Log(x, 0, 0, 0) != -1 || cut.Part(x, 0) != -1 {
			t.Errorf("%d: %v, %d, %d, %d", k, l, cut.Tasks(x), part, p)
		}
	}
}

// anyTopo is some valid topology.
func anyTopo(rnd *rand.Rand) api.Topo {
	x := lay(1+rnd.Intn(8), source(0))
	for len(x.V) < 1+rnd.Intn(24) {
		y := x
		from := rnd.Intn(len(x.V))
		y.V = append(slices.Clone(x.V), []api.Vertex{source(rnd.Int63n(8)), vert(api.VertMap, 0, from), key(from), key(from), agg(from), join(from, rnd.Intn(len(x.V))), sink(rnd.Int63n(8), from)}[rnd.Intn(7)])
		if _, err := topo.Check(y); err == api.OK {
			x = y
		}
	}
	return x
}

func TestAgainstTheWords(t *testing.T) { // P16.1 to P16.3
	rnd := rand.New(rand.NewSource(1))
	most := 0
	for range 2000 {
		x := anyTopo(rnd)
		n := len(x.V)
		linked := make([][]bool, n)
		for v := range linked {
			linked[v] = make([]bool, n)
			linked[v][v] = true
		}
		for v, y := range x.V {
			for _, f := range y.From {
				if x.V[f].Kind != api.VertKey {
					linked[v][f], linked[f][v] = true, true
				}
			}
		}
		for k := range n {
			for a := range n {
				for b := range n {
					linked[a][b] = linked[a][b] || linked[a][k] && linked[k][b]
				}
			}
		}
		want := make([]int, n)
		parts := 0
		for v := range n {
			if low := slices.Index(linked[v], true); low < v {
				want[v] = want[low]
			} else {
				want[v] = parts
				parts++
			}
		}
		got, err := cut.Parts(x)
		if !slices.Equal(got, want) || err != api.OK || cut.Tasks(x) != parts*x.Parts {
			t.Fatal(x, got, want, err)
		}
		most = max(most, parts)
		for part := range parts {
			var inputs []int
			for v, y := range x.V {
				reads := y.Kind == api.VertSource && want[v] == part
				for _, u := range topo.Users(x, v) {
					reads = reads || y.Kind == api.VertKey && want[u] == part
				}
				if reads {
					inputs = append(inputs, v)
				}
			}
			if got := cut.Inputs(x, part); !slices.Equal(got, inputs) {
				t.Fatal(x, part, got, inputs)
			}
		}
		seen := map[int]bool{}
		for kind := range 3 {
			for v := range n {
				for p := range x.Parts {
					log := cut.Log(x, kind, v, p)
					if log < 0 || seen[log] {
						t.Fatal(x, kind, v, p, log)
					}
					seen[log] = true
				}
			}
		}
	}
	if most < 5 {
		t.Error("parts:", most)
	}
}

func TestArgumentsStay(t *testing.T) { // R3
	lay := func() api.Topo { return lay(3, source(0), key(0), agg(1), sink(0, 2)) }
	x := lay()
	cut.Parts(x)
	cut.Inputs(x, 1)
	cut.Tasks(x)
	cut.Of(x, 3)
	cut.Log(x, 1, 1, 1)
	cut.Part(x, -1)
	if !reflect.DeepEqual(x, lay()) {
		t.Error(x)
	}
}

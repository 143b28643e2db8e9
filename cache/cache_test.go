package cache

import (
	"math"
	"reflect"
	"slices"
	"testing"

	"clockwall/api"
)

func way(line int) api.Way     { return api.Way{Line: line} }
func written(line int) api.Way { return api.Way{Line: line, Dirty: true} }

func made(sets ...[]api.Way) api.Cache { return api.Cache{Sets: sets} }

func ways(l ...api.Way) []api.Way { return l }

// fresh is New, where it must work.
func fresh(t *testing.T, sets, ways int) api.Cache {
	t.Helper()
	c, e := New(sets, ways)
	if e != api.OK {
		t.Fatalf("New(%d, %d): error %d", sets, ways, e)
	}
	return c
}

// access is Access, where it must work.
func access(t *testing.T, c api.Cache, line int, write bool) (api.Cache, int) {
	t.Helper()
	after, cost, e := Access(c, line, write)
	if e != api.OK {
		t.Fatalf("Access(%v, %d, %v): error %d", c, line, write, e)
	}
	return after, cost
}

// A1
func TestNewHasNothing(t *testing.T) {
	for sets := 1; sets <= 4; sets++ {
		for ways := 1; ways <= 3; ways++ {
			c := fresh(t, sets, ways)
			if len(c.Sets) != sets {
				t.Errorf("New(%d, %d) has %d sets", sets, ways, len(c.Sets))
			}
			for _, set := range c.Sets {
				if !slices.Equal(set, make([]api.Way, ways)) {
					t.Errorf("New(%d, %d) has a set %v", sets, ways, set)
				}
			}
			if e := Check(c); e != api.OK {
				t.Errorf("Check(New(%d, %d)) = %d", sets, ways, e)
			}
		}
	}
}

// A1, P1
func TestNewRefuses(t *testing.T) {
	wrong := []int{math.MinInt, -1, 0, 5, math.MaxInt}
	for _, n := range append(wrong, 4) {
		refused(t, 1, n)
	}
	for _, n := range wrong {
		refused(t, n, 1)
		refused(t, n, n)
	}
}

func refused(t *testing.T, sets, ways int) {
	t.Helper()
	if c, e := New(sets, ways); e != api.ErrRange || c.Sets != nil {
		t.Errorf("New(%d, %d) = %v, %d", sets, ways, c, e)
	}
}

var checks = []struct {
	name string
	c    api.Cache
	want api.Errno
}{
	{"no sets", made(), api.ErrRange},
	{"five sets", made(ways(way(0)), ways(way(0)), ways(way(0)), ways(way(0)), ways(way(0))), api.ErrRange},
	{"no ways", made(ways()), api.ErrRange},
	{"four ways", made(make([]api.Way, 4)), api.ErrRange},
	{"no ways in the last set", made(ways(way(0)), nil), api.ErrRange},
	{"four ways in the last set", made(ways(way(0)), make([]api.Way, 4)), api.ErrRange},
	{"the last set has more", made(ways(way(0)), ways(way(0)), ways(way(0), way(0))), api.ErrForm},
	{"the last set has fewer", made(ways(way(0), way(0)), ways(way(0))), api.ErrForm},
	{"line below 0", made(ways(way(-1))), api.ErrRange},
	{"least line", made(ways(way(math.MinInt))), api.ErrRange},
	{"line above MaxLine", made(ways(way(1001))), api.ErrRange},
	{"greatest line", made(ways(way(math.MaxInt))), api.ErrRange},
	{"nothing, but dirty", made(ways(written(0))), api.ErrForm},
	{"line of another set", made(ways(way(0)), ways(way(2))), api.ErrState},
	{"line of set 0", made(ways(way(1)), ways(way(0))), api.ErrState},
	{"twice", made(ways(way(7), way(7))), api.ErrTwice},
	{"twice, not beside one another", made(ways(way(7), way(8), written(7))), api.ErrTwice},
	{"behind nothing", made(ways(way(0), way(7))), api.ErrState},
	{"behind nothing, not beside it", made(ways(way(1), way(0), way(7))), api.ErrState},

	{"ways ahead of as many", made(ways(way(0)), ways(way(0), way(0)), ways()), api.ErrRange},
	{"as many ahead of lines", made(ways(way(-1)), ways(way(0), way(0))), api.ErrForm},
	{"range ahead of dirty, way by way", made(ways(way(-1), written(0))), api.ErrRange},
	{"dirty ahead of range, way by way", made(ways(written(0), way(-1))), api.ErrForm},
	{"first set ahead of the second one", made(ways(way(1)), ways(way(-1))), api.ErrState},
	{"range ahead of set", made(ways(way(0)), ways(way(1002))), api.ErrRange},
	{"range ahead of twice", made(ways(way(1), way(1001))), api.ErrRange},
	{"range ahead of nothing", made(ways(way(0), way(1001))), api.ErrRange},
	{"set ahead of twice", made(ways(way(2), way(4)), ways(way(4), way(4))), api.ErrState},
	{"twice ahead of nothing", made(ways(way(5), way(0), way(5))), api.ErrTwice},

	{"line MaxLine", made(ways(way(1000))), api.OK},
	{"line 1", made(ways(written(1))), api.OK},
	{"nothing behind lines", made(ways(written(3), way(1), way(0))), api.OK},
	{"full", made(ways(way(4), written(8)), ways(way(1), way(997)), ways(written(2), way(6)), ways(way(3), way(999))), api.OK},
	{"all ways have nothing", made(ways(way(0), way(0)), ways(way(0), way(0))), api.OK},
}

// A1
func TestCheck(t *testing.T) {
	for _, x := range checks {
		if got := Check(x.c); got != x.want {
			t.Errorf("%s: %d, not %d", x.name, got, x.want)
		}
	}
}

// A1, P1
func TestOthersTellCheckFirst(t *testing.T) {
	for _, x := range checks {
		if x.want == api.OK {
			continue
		}
		for _, line := range []int{0, 1, 1001} {
			if c, cost, e := Access(x.c, line, true); e != x.want || cost != 0 || c.Sets != nil {
				t.Errorf("%s: Access = %v, %d, %d", x.name, c, cost, e)
			}
		}
		if c, cost, e := Flush(x.c); e != x.want || cost != 0 || c.Sets != nil {
			t.Errorf("%s: Flush = %v, %d, %d", x.name, c, cost, e)
		}
	}
}

// A2
func TestAccess(t *testing.T) {
	for _, x := range []struct {
		name   string
		before api.Cache
		line   int
		write  bool
		after  api.Cache
		cost   int
	}{
		{"miss, read", made(ways(way(0))), 5, false, made(ways(way(5))), 10},
		{"miss, written", made(ways(way(0))), 5, true, made(ways(written(5))), 10},
		{"hit, read", made(ways(way(5))), 5, false, made(ways(way(5))), 1},
		{"hit, written", made(ways(way(5))), 5, true, made(ways(written(5))), 1},
		{"hit of a dirty one stays dirty", made(ways(written(5))), 5, false, made(ways(written(5))), 1},
		{"miss, clean goes", made(ways(way(5))), 6, false, made(ways(way(6))), 10},
		{"miss, dirty goes, read", made(ways(written(5))), 6, false, made(ways(way(6))), 15},
		{"miss, dirty goes, written", made(ways(written(5))), 6, true, made(ways(written(6))), 15},
		{"only the last way goes", made(ways(written(1), way(2))), 3, false, made(ways(way(3), written(1))), 10},
		{"the last way of three goes", made(ways(way(1), way(2), written(3))), 4, false, made(ways(way(4), way(1), way(2))), 15},
		{"nothing is filled from behind", made(ways(written(1), way(0), way(0))), 2, false, made(ways(way(2), written(1), way(0))), 10},
		{"hit of the first one", made(ways(way(1), written(2), way(3))), 1, false, made(ways(way(1), written(2), way(3))), 1},
		{"hit in the middle", made(ways(way(1), written(2), way(3))), 2, false, made(ways(written(2), way(1), way(3))), 1},
		{"hit of the last one", made(ways(written(1), way(2), way(3))), 3, false, made(ways(way(3), written(1), way(2))), 1},
		{"set 0", made(ways(way(0)), ways(way(1))), 4, false, made(ways(way(4)), ways(way(1))), 10},
		{"set 1", made(ways(written(2)), ways(way(0))), 7, true, made(ways(written(2)), ways(written(7))), 10},
		{"the last set", made(ways(way(3)), ways(way(1)), ways(written(2))), 5, false, made(ways(way(3)), ways(way(1)), ways(way(5))), 15},
		{"least line", made(ways(way(0))), 1, false, made(ways(way(1))), 10},
		{"greatest line", made(ways(way(0))), 1000, false, made(ways(way(1000))), 10},
	} {
		after, cost := access(t, x.before, x.line, x.write)
		if cost != x.cost || !reflect.DeepEqual(after, x.after) {
			t.Errorf("%s: %v, %d, not %v, %d", x.name, after, cost, x.after, x.cost)
		}
	}
}

// A2, P1
func TestAccessRefuses(t *testing.T) {
	for _, line := range []int{math.MinInt, -1, 0, 1001, math.MaxInt} {
		if c, cost, e := Access(made(ways(way(5))), line, true); e != api.ErrRange || cost != 0 || c.Sets != nil {
			t.Errorf("Access of line %d = %v, %d, %d", line, c, cost, e)
		}
	}
}

// A2
func TestFlush(t *testing.T) {
	for _, x := range []struct {
		name string
		c    api.Cache
		cost int
	}{
		{"nothing", made(ways(way(0))), 2},
		{"a clean one", made(ways(way(5))), 2},
		{"a dirty one", made(ways(written(5))), 7},
		{"dirty and clean", made(ways(written(4), way(2)), ways(way(1), written(3))), 12},
		{"the last way", made(ways(way(1), way(2), written(3))), 7},
	} {
		after, cost, e := Flush(x.c)
		if want := fresh(t, len(x.c.Sets), len(x.c.Sets[0])); e != api.OK || cost != x.cost || !reflect.DeepEqual(after, want) {
			t.Errorf("%s: %v, %d, %d", x.name, after, cost, e)
		}
	}
}

// The document's first example.
func TestExample(t *testing.T) {
	c, first := access(t, fresh(t, 1, 1), 5, true)
	c, second := access(t, c, 5, false)
	_, third, _ := Flush(c)
	if first != 10 || second != 1 || third != 7 {
		t.Errorf("costs %d, %d, %d", first, second, third)
	}
}

// use of a line, as it was told: a model that knows no ways, only what came when.
type told struct {
	line  int
	write bool
}

// resident answers what a set of that many ways has, by the past alone: the lines used last, and which of them were written since they came.
func resident(past []told, set, sets, ways int) []api.Way {
	var l []api.Way
	for _, u := range past {
		if u.line%sets != set {
			continue
		}
		now := api.Way{Line: u.line, Dirty: u.write}
		l = slices.DeleteFunc(l, func(w api.Way) bool {
			if w.Line == u.line {
				now.Dirty = now.Dirty || w.Dirty
			}
			return w.Line == u.line
		})
		l = append([]api.Way{now}, l...)
		l = l[:min(len(l), ways)]
	}
	return append(l, make([]api.Way, ways-len(l))...)
}

// A2, A3
func TestLongPasts(t *testing.T) {
	for sets := 1; sets <= 4; sets++ {
		for ways := 1; ways <= 3; ways++ {
			longPast(t, sets, ways)
		}
	}
}

func longPast(t *testing.T, sets, ways int) {
	c := fresh(t, sets, ways)
	var past []told
	seed := uint32(sets*10 + ways)
	for range 200 {
		seed = seed*1664525 + 1013904223
		u := told{line: 1 + int(seed>>24)%14, write: seed>>16&3 == 0}
		cost := 0
		c, cost = access(t, c, u.line, u.write)
		past = append(past, u)
		if cost > 10+5 {
			t.Fatalf("%d sets, %d ways: an access costs %d", sets, ways, cost)
		}
		if e := Check(c); e != api.OK {
			t.Fatalf("%d sets, %d ways: Check = %d of %v", sets, ways, e, c)
		}
		for i, set := range c.Sets {
			if want := resident(past, i, sets, ways); !slices.Equal(set, want) {
				t.Fatalf("%d sets, %d ways: set %d is %v, not %v", sets, ways, i, set, want)
			}
		}
		if _, again, _ := Access(c, u.line, false); again != 1 {
			t.Fatalf("%d sets, %d ways: what was used last costs %d", sets, ways, again)
		}
		if _, cost, _ := Flush(c); cost > 2+5*sets*ways {
			t.Fatalf("%d sets, %d ways: a flush costs %d", sets, ways, cost)
		}
	}
}

// A3: the bounds are reached, and not passed.
func TestGreatestCosts(t *testing.T) {
	for sets := 1; sets <= 4; sets++ {
		for ways := 1; ways <= 3; ways++ {
			c, cost := fresh(t, sets, ways), 0
			for line := 1; line <= sets*ways; line++ {
				c, _ = access(t, c, line, true)
			}
			if _, cost, _ = Access(c, 1000, true); cost != 15 {
				t.Errorf("%d sets, %d ways: an access costs %d", sets, ways, cost)
			}
			if _, cost, _ = Flush(c); cost != 2+5*sets*ways {
				t.Errorf("%d sets, %d ways: a flush costs %d", sets, ways, cost)
			}
		}
	}
}

// roomy: a full cache of two sets, with spare room behind each list, and all that memory.
func roomy() (api.Cache, [][]api.Way) {
	outer := make([][]api.Way, 4)
	for i := range outer {
		all := ways(written(4+i), way(2+i), way(77), written(78), way(79))
		outer[i] = all[:2]
	}
	return api.Cache{Sets: outer[:2]}, outer
}

// whole copies all of that memory, the spare room too.
func whole(outer [][]api.Way) [][]api.Way {
	var l [][]api.Way
	for _, set := range outer {
		l = append(l, slices.Clone(set[:cap(set)]))
	}
	return l
}

// P2
func TestWhatIsHandedInIsOnlyRead(t *testing.T) {
	for _, do := range []func(api.Cache){
		func(c api.Cache) { Check(c) },
		func(c api.Cache) { Access(c, 2, true) },
		func(c api.Cache) { Access(c, 9, true) },
		func(c api.Cache) { Flush(c) },
	} {
		c, outer := roomy()
		before := whole(outer)
		do(c)
		if after := whole(outer); !reflect.DeepEqual(before, after) {
			t.Errorf("it was\n%v\nand is\n%v", before, after)
		}
	}
}

// spoil writes over all memory of a list, the spare room too.
func spoil(set []api.Way) {
	all := set[:cap(set)]
	for i := range all {
		all[i] = way(500)
	}
}

// P2: an answer is the caller's, whatever comes of what was handed in, and of its own other lists.
func TestAnswersAreNewMemory(t *testing.T) {
	for i, do := range []func(api.Cache) api.Cache{
		func(c api.Cache) api.Cache { a, _ := New(2, 2); return a },
		func(c api.Cache) api.Cache { a, _, _ := Access(c, 2, true); return a },
		func(c api.Cache) api.Cache { a, _, _ := Access(c, 9, false); return a },
		func(c api.Cache) api.Cache { a, _, _ := Flush(c); return a },
	} {
		c, outer := roomy()
		answer := do(c)
		before := whole(answer.Sets)
		for j, set := range outer {
			spoil(set)
			outer[j] = nil
		}
		if after := whole(answer.Sets); !reflect.DeepEqual(before, after) {
			t.Errorf("%d: what was handed in changes the answer from %v to %v", i, before, after)
		}
		spoil(answer.Sets[0])
		if after := whole(answer.Sets[1:]); !reflect.DeepEqual(before[1:], after) {
			t.Errorf("%d: the first set changes the second one from %v to %v", i, before[1:], after)
		}
	}
}

// P3
func TestSameEachTime(t *testing.T) {
	c := made(ways(written(2), way(4)), ways(way(3), way(0)))
	first, cost := access(t, c, 6, true)
	Access(c, 4, false)
	Flush(c)
	New(2, 2)
	second, again := access(t, c, 6, true)
	if cost != again || !reflect.DeepEqual(first, second) {
		t.Errorf("%v, %d, then %v, %d", first, cost, second, again)
	}
}

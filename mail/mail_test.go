package mail

import (
	"math"
	"reflect"
	"slices"
	"testing"

	"clockwall/api"
)

func ring(lost int, values ...int) api.Ring { return api.Ring{Values: values, Lost: lost} }

// same ring, whether its empty list is nil or not.
func same(a, b api.Ring) bool { return a.Lost == b.Lost && slices.Equal(a.Values, b.Values) }

func nothing(r api.Ring) bool { return r.Lost == 0 && len(r.Values) == 0 }

var checks = []struct {
	name string
	r    api.Ring
	size int
	want api.Errno
}{
	{"empty", ring(0), 1, api.OK},
	{"empty, but not nil", api.Ring{Values: []int{}}, 1, api.OK},
	{"full, of the least size", ring(0, 9), 1, api.OK},
	{"full, of the greatest size", ring(0, 1, 2, 3, 4), 4, api.OK},
	{"not full", ring(0, 1, 2), 3, api.OK},
	{"least value", ring(0, 5, 0), 2, api.OK},
	{"greatest value", ring(0, 5, 255), 2, api.OK},
	{"most lost", ring(100000), 2, api.OK},

	{"no size", ring(0), 0, api.ErrRange},
	{"size below 0", ring(0), -1, api.ErrRange},
	{"size above MaxRing", ring(0), 5, api.ErrRange},
	{"least number as size", ring(0), math.MinInt, api.ErrRange},
	{"greatest number as size", ring(0), math.MaxInt, api.ErrRange},
	{"one more than size", ring(0, 1, 2), 1, api.ErrMany},
	{"one more than the greatest size", ring(0, 1, 2, 3, 4, 5), 4, api.ErrMany},
	{"value below 0", ring(0, 5, -1), 2, api.ErrRange},
	{"first value below 0", ring(0, math.MinInt, 5), 2, api.ErrRange},
	{"value above MaxValue", ring(0, 5, 256), 2, api.ErrRange},
	{"greatest number as value", ring(0, math.MaxInt), 2, api.ErrRange},
	{"lost below 0", ring(-1), 2, api.ErrRange},
	{"lost above MaxAt", ring(100001), 2, api.ErrRange},
	{"least number lost", ring(math.MinInt), 2, api.ErrRange},
	{"greatest number lost", ring(math.MaxInt), 2, api.ErrRange},

	{"size ahead of how many", ring(0, 1), 0, api.ErrRange},
	{"size ahead of how many, above", ring(0, 1, 2, 3, 4, 5, 6), 5, api.ErrRange},
	{"how many ahead of a value", ring(0, 256, 1), 1, api.ErrMany},
	{"how many ahead of lost", ring(-1, 2, 1), 1, api.ErrMany},
}

// C1
func TestCheck(t *testing.T) {
	for _, x := range checks {
		if got := Check(x.r, x.size); got != x.want {
			t.Errorf("%s: %d, not %d", x.name, got, x.want)
		}
	}
}

// C1, P1
func TestOthersTellCheckFirst(t *testing.T) {
	for _, x := range checks {
		for _, values := range [][]int{nil, {1}, {256}, {-1, 2}} {
			if r, e := Commit(x.r, x.size, values); x.want != api.OK && (e != x.want || !nothing(r)) {
				t.Errorf("%s: Commit = %v, %d", x.name, r, e)
			}
		}
		r, value, e := Receive(x.r, x.size)
		if e != x.want {
			t.Errorf("%s: Receive = %v, %d, %d", x.name, r, value, e)
		}
		if e != api.OK && (value != 0 || !nothing(r)) {
			t.Errorf("%s: Receive is refused with %v, %d", x.name, r, value)
		}
	}
}

// C1
func TestCommit(t *testing.T) {
	for _, x := range []struct {
		name   string
		before api.Ring
		size   int
		values []int
		after  api.Ring
	}{
		{"nothing to an empty one", ring(0), 1, nil, ring(0)},
		{"nothing to a full one", ring(3, 1), 1, []int{}, ring(3, 1)},
		{"one to an empty one", ring(0), 1, []int{7}, ring(0, 7)},
		{"behind those that wait", ring(0, 1, 2), 4, []int{7, 8}, ring(0, 1, 2, 7, 8)},
		{"room is left", ring(5, 1), 4, []int{7, 8}, ring(5, 1, 7, 8)},
		{"one too many", ring(0), 1, []int{7, 8}, ring(1, 7)},
		{"some too many", ring(2, 1), 3, []int{7, 8, 9, 10, 11}, ring(5, 1, 7, 8)},
		{"all too many", ring(0, 1, 2), 2, []int{7, 8, 9}, ring(3, 1, 2)},
		{"least and greatest value", ring(0), 2, []int{0, 255}, ring(0, 0, 255)},
		{"as many lost as may be", ring(99998), 1, []int{7, 8, 9}, ring(100000, 7)},
		{"more lost than may be", ring(99999), 1, []int{7, 8, 9}, ring(100000, 7)},
		{"no more can be lost", ring(100000, 1), 1, []int{7, 8, 9}, ring(100000, 1)},
		{"very many", ring(0, 1), 2, make([]int, 200000), ring(100000, 1, 0)},
	} {
		if got, e := Commit(x.before, x.size, x.values); e != api.OK || !same(got, x.after) {
			t.Errorf("%s: %v, %d, not %v", x.name, got, e, x.after)
		}
	}
}

// C1, P1: also a value that would be lost must be right.
func TestCommitRefuses(t *testing.T) {
	for _, values := range [][]int{{-1}, {256}, {math.MinInt}, {math.MaxInt}, {1, 256}, {256, 1}, {1, 2, 3, -1}} {
		for _, r := range []api.Ring{ring(0), ring(0, 1), ring(7, 1, 2)} {
			if got, e := Commit(r, 2, values); e != api.ErrRange || !nothing(got) {
				t.Errorf("Commit(%v, 2, %v) = %v, %d", r, values, got, e)
			}
		}
	}
}

// C1
func TestReceive(t *testing.T) {
	for _, x := range []struct {
		before api.Ring
		after  api.Ring
		value  int
	}{
		{ring(0), ring(0), -1},
		{api.Ring{Values: []int{}, Lost: 4}, ring(4), -1},
		{ring(0, 7), ring(0), 7},
		{ring(0, 0), ring(0), 0},
		{ring(100000, 255, 8), ring(100000, 8), 255},
		{ring(6, 1, 2, 3, 4), ring(6, 2, 3, 4), 1},
	} {
		got, value, e := Receive(x.before, 4)
		if e != api.OK || value != x.value || !same(got, x.after) {
			t.Errorf("Receive(%v) = %v, %d, %d", x.before, got, value, e)
		}
	}
}

// The document's third example.
func TestExample(t *testing.T) {
	r, e := Commit(api.Ring{}, 1, []int{7, 8})
	if e != api.OK || !same(r, ring(1, 7)) {
		t.Fatalf("Commit = %v, %d", r, e)
	}
	r, value, e := Receive(r, 1)
	if e != api.OK || value != 7 || !same(r, ring(1)) {
		t.Errorf("Receive = %v, %d, %d", r, value, e)
	}
	if _, value, _ := Receive(r, 1); value != -1 {
		t.Errorf("then Receive = %d", value)
	}
}

// C3: a ring against a queue that is told one value at a time.
func TestReceivedAsCommitted(t *testing.T) {
	for size := 1; size <= api.MaxRing; size++ {
		r, next, lost := api.Ring{}, 0, 0
		var queue []int
		for step := range 200 {
			var values []int
			for range step * 7 % 5 {
				values = append(values, next%256)
				next++
			}
			for _, v := range values {
				if len(queue) < size {
					queue = append(queue, v)
				} else {
					lost++
				}
			}
			r, _ = Commit(r, size, values)
			for range step % 3 {
				want := -1
				if len(queue) > 0 {
					want, queue = queue[0], queue[1:]
				}
				var got int
				if r, got, _ = Receive(r, size); got != want {
					t.Fatalf("size %d, step %d: received %d, not %d", size, step, got, want)
				}
			}
			if !same(r, api.Ring{Values: queue, Lost: lost}) || Check(r, size) != api.OK {
				t.Fatalf("size %d, step %d: %v, not %v and %d lost", size, step, r, queue, lost)
			}
		}
	}
}

// roomy has values behind its list, in the same memory.
func roomy() api.Ring {
	values := []int{1, 2, 70, 71, 72, 73}
	return api.Ring{Values: values[:2]}
}

// P2
func TestRingsAreOnlyRead(t *testing.T) {
	r, values := roomy(), []int{3, 4, 5, 80, 81}
	Check(r, 4)
	Commit(r, 4, values[:3])
	Receive(r, 4)
	if got := r.Values[:cap(r.Values)]; !slices.Equal(got, []int{1, 2, 70, 71, 72, 73}) {
		t.Errorf("the ring is %v", got)
	}
	if !slices.Equal(values, []int{3, 4, 5, 80, 81}) {
		t.Errorf("the values are %v", values)
	}
}

// fill changes all memory of a list, the spare room too.
func fill(l []int) {
	l = l[:cap(l)]
	for i := range l {
		l[i] = 99
	}
}

// P2: neither a later change of what was handed in nor one of the answer is seen on the other side.
func TestRingsAreNewMemory(t *testing.T) {
	for _, committed := range [][]int{nil, {3}, {3, 4, 5}} {
		r, values := roomy(), slices.Clone(committed)
		after, _ := Commit(r, 4, values)
		want := slices.Clone(after.Values)
		fill(r.Values)
		fill(values)
		if !slices.Equal(after.Values, want) {
			t.Errorf("a change of what was handed to Commit makes its answer %v", after.Values)
		}
	}
	r := roomy()
	received, _, _ := Receive(r, 4)
	committed, _ := Commit(api.Ring{}, 4, r.Values)
	same, _ := Commit(r, 4, nil)
	fill(received.Values)
	fill(committed.Values)
	fill(same.Values)
	if got := r.Values[:cap(r.Values)]; !slices.Equal(got, []int{1, 2, 70, 71, 72, 73}) {
		t.Errorf("a change of the answers makes what was handed in %v", got)
	}
}

// lines of three domains, of which the last one has none.
func lines() api.Config {
	return api.Config{
		Sets: 1, Ways: 1, Domains: 3, Pad: 10, Quantum: 4,
		Slots:  []api.Slot{{Domain: 0, Length: 100}},
		Owners: []int{0, 1, 1},
	}
}

func arrivals() []api.Arrival {
	return []api.Arrival{{At: 10, Line: 0}, {At: 0, Line: 0}, {At: 5, Line: 1}, {At: 5, Line: 2}, {At: 5, Line: 1}, {At: 10, Line: 2}, {At: 100000, Line: 1}, {At: 99999, Line: 0}}
}

// C2
func TestArrived(t *testing.T) {
	for _, x := range []struct {
		name             string
		domain, from, to int
		want             []int
	}{
		{"one owner", 0, 0, 11, []int{2, 0, 0}},
		{"another owner", 1, 0, 11, []int{0, 2, 2}},
		{"no line of its own", 2, 0, 100000, []int{0, 0, 0}},
		{"the first time counts", 1, 5, 10, []int{0, 2, 1}},
		{"the last time does not", 1, 0, 5, []int{0, 0, 0}},
		{"one time", 1, 5, 6, []int{0, 2, 1}},
		{"no time", 1, 5, 5, []int{0, 0, 0}},
		{"backward", 1, 11, 0, []int{0, 0, 0}},
		{"the first cycle of all", 0, 0, 1, []int{1, 0, 0}},
		{"all time", 0, 0, 100000, []int{3, 0, 0}},
		{"all time does not reach MaxAt", 1, 0, 100000, []int{0, 2, 2}},
		{"behind all", 0, 100000, 100000, []int{0, 0, 0}},
	} {
		if got, e := Arrived(lines(), arrivals(), x.domain, x.from, x.to); e != api.OK || !slices.Equal(got, x.want) {
			t.Errorf("%s: %v, %d, not %v", x.name, got, e, x.want)
		}
	}
}

// C2
func TestArrivedOfLittleAndMuch(t *testing.T) {
	c := lines()
	for _, l := range [][]api.Arrival{nil, {}} {
		if got, e := Arrived(c, l, 1, 0, 100000); e != api.OK || !slices.Equal(got, []int{0, 0, 0}) {
			t.Errorf("without arrivals: %v, %d", got, e)
		}
	}
	if got, e := Arrived(c, make([]api.Arrival, 40), 0, 0, 1); e != api.OK || !slices.Equal(got, []int{40, 0, 0}) {
		t.Errorf("with the most arrivals: %v, %d", got, e)
	}
	c.Owners = nil
	if got, e := Arrived(c, nil, 0, 0, 1); e != api.OK || len(got) != 0 {
		t.Errorf("without lines: %v, %d", got, e)
	}
}

// asked is what Arrived is handed.
type asked struct {
	c                api.Config
	l                []api.Arrival
	domain, from, to int
}

// C2, P1
func TestArrivedRefuses(t *testing.T) {
	for _, x := range []struct {
		name string
		do   func(a *asked)
		want api.Errno
	}{
		{"nothing", func(a *asked) {}, api.OK},
		{"greatest times", func(a *asked) { a.from, a.to = 100000, 100000 }, api.OK},
		{"last domain", func(a *asked) { a.domain = 2 }, api.OK},
		{"no sets", func(a *asked) { a.c.Sets = 0 }, api.ErrRange},
		{"too little pad", func(a *asked) { a.c.Pad = 0 }, api.ErrState},
		{"no config", func(a *asked) { a.c = api.Config{} }, api.ErrRange},
		{"domain below 0", func(a *asked) { a.domain = -1 }, api.ErrNone},
		{"domain that is none", func(a *asked) { a.domain = 3 }, api.ErrNone},
		{"least number as domain", func(a *asked) { a.domain = math.MinInt }, api.ErrNone},
		{"greatest number as domain", func(a *asked) { a.domain = math.MaxInt }, api.ErrNone},
		{"too many", func(a *asked) { a.l = make([]api.Arrival, 41) }, api.ErrMany},
		{"at below 0", func(a *asked) { a.l[3].At = -1 }, api.ErrRange},
		{"at above MaxAt", func(a *asked) { a.l[7].At = 100001 }, api.ErrRange},
		{"line below 0", func(a *asked) { a.l[0].Line = -1 }, api.ErrNone},
		{"line that is none", func(a *asked) { a.l[7].Line = 3 }, api.ErrNone},
		{"greatest number as line", func(a *asked) { a.l[1].Line = math.MaxInt }, api.ErrNone},
		{"no lines at all", func(a *asked) { a.c.Owners, a.l = nil, a.l[:1] }, api.ErrNone},
		{"from below 0", func(a *asked) { a.from = -1 }, api.ErrRange},
		{"from above MaxAt", func(a *asked) { a.from = 100001 }, api.ErrRange},
		{"to below 0", func(a *asked) { a.to = -1 }, api.ErrRange},
		{"to above MaxAt", func(a *asked) { a.to = 100001 }, api.ErrRange},

		{"config ahead of domain", func(a *asked) { a.c.Pad, a.domain = 0, 3 }, api.ErrState},
		{"domain ahead of how many", func(a *asked) { a.domain, a.l = 3, make([]api.Arrival, 41) }, api.ErrNone},
		{"how many ahead of at", func(a *asked) { a.l = slices.Repeat([]api.Arrival{{At: -1, Line: -1}}, 41) }, api.ErrMany},
		{"at ahead of its line", func(a *asked) { a.l[2] = api.Arrival{At: -1, Line: 3} }, api.ErrRange},
		{"at ahead of the line of another one", func(a *asked) { a.l[0].Line, a.l[7].At = 3, -1 }, api.ErrRange},
		{"line ahead of from", func(a *asked) { a.l[7].Line, a.from = 3, -1 }, api.ErrNone},
		{"line ahead of to", func(a *asked) { a.l[7].Line, a.to = 3, 100001 }, api.ErrNone},
	} {
		a := asked{lines(), arrivals(), 1, 0, 11}
		x.do(&a)
		got, e := Arrived(a.c, a.l, a.domain, a.from, a.to)
		if e != x.want || e != api.OK && got != nil {
			t.Errorf("%s: %v, %d, not %d", x.name, got, e, x.want)
		}
	}
}

// C3
func TestArrivedAddsUp(t *testing.T) {
	times := []int{0, 1, 5, 6, 10, 11, 99999, 100000}
	for domain := range 3 {
		for i, from := range times {
			for j, middle := range times[i:] {
				for _, to := range times[i+j:] {
					first, _ := Arrived(lines(), arrivals(), domain, from, middle)
					second, _ := Arrived(lines(), arrivals(), domain, middle, to)
					both, _ := Arrived(lines(), arrivals(), domain, from, to)
					for line := range 3 {
						if first[line]+second[line] != both[line] {
							t.Errorf("domain %d, from %d, %d to %d: %v and %v, but %v", domain, from, middle, to, first, second, both)
						}
					}
				}
			}
		}
	}
}

// P2, P3
func TestArrivedOnlyReads(t *testing.T) {
	c, l := lines(), append(arrivals(), api.Arrival{At: 1})
	l = l[:len(l)-1]
	first, _ := Arrived(c, l, 1, 0, 11)
	fill(first)
	if second, _ := Arrived(c, l, 1, 0, 11); !slices.Equal(second, []int{0, 2, 2}) {
		t.Errorf("the second answer is %v", second)
	}
	if !reflect.DeepEqual(c, lines()) || !slices.Equal(l, arrivals()) || l[:len(l)+1][len(l)].At != 1 {
		t.Errorf("it is now %v, %v", c, l)
	}
}

package turn

import (
	"math"
	"reflect"
	"slices"
	"testing"

	"clockwall/api"
	"clockwall/ready"
)

// trio of domains; the last one has two slots, the first one two lines and two channels to others.
func trio() api.Config {
	return api.Config{
		Sets: 2, Ways: 2, Domains: 3, Pad: 30, Quantum: 10,
		Slots:    []api.Slot{{Domain: 2, Length: 150}, {Domain: 0, Length: 110}, {Domain: 2, Length: 100}, {Domain: 1, Length: 300}},
		Owners:   []int{0, 1, 0},
		Channels: []api.Channel{{From: 0, To: 1, Size: 2}, {From: 1, To: 0, Size: 4}, {From: 0, To: 2, Size: 3}},
		Tasks:    []api.Task{{Domain: 0, Period: 100, Budget: 60, Deadline: 100}, {Domain: 1, Period: 80, Budget: 80, Deadline: 40}},
	}
}

// fresh is ready.New, where it must work.
func fresh(t *testing.T, c api.Config, domain int) api.Domain {
	t.Helper()
	d, e := ready.New(c, domain)
	if e != api.OK {
		t.Fatalf("New(%v, %d): error %d", c, domain, e)
	}
	return d
}

// wrong configs, with what is told of them ahead of all else.
var wrong = []struct {
	name string
	do   func(c *api.Config)
	want api.Errno
}{
	{"no config", func(c *api.Config) { *c = api.Config{} }, api.ErrRange},
	{"too little pad", func(c *api.Config) { c.Pad = 0 }, api.ErrState},
	{"no slots", func(c *api.Config) { c.Slots = nil }, api.ErrMany},
	{"slot of no domain", func(c *api.Config) { c.Slots[3].Domain = 3 }, api.ErrNone},
	{"channel to itself", func(c *api.Config) { c.Channels[0].To = 0 }, api.ErrForm},
	{"channel twice", func(c *api.Config) { c.Channels[2].To = 1 }, api.ErrTwice},
}

// F1, F2, F3, P1
func TestWrongConfigs(t *testing.T) {
	for _, x := range wrong {
		c := trio()
		x.do(&c)
		if n, e := Length(c); n != 0 || e != x.want {
			t.Errorf("%s: Length = %d, %d, not %d", x.name, n, e, x.want)
		}
		if n, e := Start(c, -1, -1); n != 0 || e != x.want {
			t.Errorf("%s: Start = %d, %d, not %d", x.name, n, e, x.want)
		}
		if d, e := Open(c, nil, -1, api.Domain{}, 0, 0); e != x.want || !reflect.DeepEqual(d, api.Domain{}) {
			t.Errorf("%s: Open = %v, %d, not %d", x.name, d, e, x.want)
		}
		if l, e := Close(c, nil, -1); e != x.want || len(l) != 0 {
			t.Errorf("%s: Close = %v, %d, not %d", x.name, l, e, x.want)
		}
	}
}

// F1
func TestLength(t *testing.T) {
	c := trio()
	for slots, want := range []int{0, 150, 260, 360, 660} {
		c.Slots = trio().Slots[:slots]
		if got, e := Length(c); slots > 0 && (got != want || e != api.OK) {
			t.Errorf("of %d slots: %d, %d, not %d", slots, got, e, want)
		}
	}
	c.Slots = slices.Repeat([]api.Slot{{Domain: 0, Length: 1000}}, 6)
	if got, e := Length(c); got != 6000 || e != api.OK {
		t.Errorf("the longest one: %d, %d", got, e)
	}
}

// F1
func TestStart(t *testing.T) {
	for _, x := range []struct {
		round, slot int
		at          int
		want        api.Errno
	}{
		{0, 0, 0, api.OK}, {0, 1, 150, api.OK}, {0, 2, 260, api.OK}, {0, 3, 360, api.OK},
		{1, 0, 660, api.OK}, {3, 3, 2340, api.OK}, {8, 0, 5280, api.OK}, {8, 3, 5640, api.OK},
		{-1, 0, 0, api.ErrRange}, {9, 0, 0, api.ErrRange},
		{math.MinInt, 0, 0, api.ErrRange}, {math.MaxInt, 0, 0, api.ErrRange},
		{0, -1, 0, api.ErrNone}, {0, 4, 0, api.ErrNone},
		{0, math.MinInt, 0, api.ErrNone}, {8, math.MaxInt, 0, api.ErrNone},
		{9, 4, 0, api.ErrRange}, {-1, -1, 0, api.ErrRange},
	} {
		if at, e := Start(trio(), x.round, x.slot); at != x.at || e != x.want {
			t.Errorf("round %d, slot %d: %d, %d, not %d, %d", x.round, x.slot, at, e, x.at, x.want)
		}
	}
}

// The document's sixth example.
func TestExample(t *testing.T) {
	c := trio()
	c.Slots = []api.Slot{{Domain: 0, Length: 100}}
	if at, e := Start(c, 2, 0); at != 200 || e != api.OK {
		t.Errorf("%d, %d", at, e)
	}
}

// F4
func TestSlotsWithoutGap(t *testing.T) {
	at := 0
	for round := range api.MaxRounds + 1 {
		for slot, s := range trio().Slots {
			if got, e := Start(trio(), round, slot); got != at || e != api.OK {
				t.Errorf("round %d, slot %d: %d, %d, not %d", round, slot, got, e, at)
			}
			at += s.Length
		}
	}
}

// busy has something in each of its fields.
func busy() api.Domain {
	return api.Domain{
		Jobs:     []api.Job{{Task: 0, Number: 1, Released: 100, Used: 3, Ran: true}},
		Released: []int{2, 0},
		Next:     4,
		In:       []api.Ring{{Values: []int{1}}, {Values: []int{2, 3}, Lost: 4}, {}},
		Taken:    []int{1, 2, 14},
		Out:      [][]int{{5, 6}, {7}, {8}},
		Events:   []api.Event{{At: 9, Kind: api.EventClose}},
	}
}

// times of arrivals of a line.
func times(line int, at ...int) []api.Arrival {
	var l []api.Arrival
	for _, n := range at {
		l = append(l, api.Arrival{At: n, Line: line})
	}
	return l
}

// F2: what is not named stays as it is, and the event comes behind the others.
func TestOpen(t *testing.T) {
	for _, x := range []struct {
		name      string
		l         []api.Arrival
		last, now int
		taken     []int
	}{
		{"nothing came", nil, 0, 100, []int{1, 2, 14}},
		{"what came at the last time, and ahead of now", times(0, 9, 10, 19, 20), 10, 20, []int{3, 2, 14}},
		{"not another one's line", times(1, 12, 13), 10, 20, []int{1, 2, 14}},
		{"each line", append(times(2, 12), times(0, 13)...), 10, 20, []int{2, 2, 15}},
		{"no more than may be", times(2, 11, 12, 13), 10, 20, []int{1, 2, 15}},
		{"many", times(0, slices.Repeat([]int{15}, 40)...), 10, 20, []int{15, 2, 14}},
		{"no time", times(0, 10), 10, 10, []int{1, 2, 14}},
		{"back in time", times(0, 10, 15, 20), 20, 10, []int{1, 2, 14}},
		{"the greatest time", times(0, 99999, 100000), 0, 100000, []int{2, 2, 14}},
	} {
		want := busy()
		want.Taken = x.taken
		want.Events = append(want.Events, api.Event{At: x.now, Kind: api.EventOpen, A: 1})
		got, e := Open(trio(), x.l, 1, busy(), x.last, x.now)
		if e != api.OK || !reflect.DeepEqual(got, want) {
			t.Errorf("%s: %v, %d, not %v", x.name, got, e, want)
		}
	}
}

// F2: by the slot's domain.
func TestOpenOtherSlots(t *testing.T) {
	came := append(times(0, 1, 2), times(1, 1, 2, 3)...)
	for slot, taken := range [][]int{{0, 0, 0}, {2, 0, 0}, {0, 0, 0}, {0, 3, 0}} {
		domain := trio().Slots[slot].Domain
		got, e := Open(trio(), came, slot, fresh(t, trio(), domain), 0, 50)
		if e != api.OK || !slices.Equal(got.Taken, taken) {
			t.Errorf("slot %d: taken %v, %d, not %v", slot, got.Taken, e, taken)
		}
		if want := (api.Event{At: 50, Kind: api.EventOpen, A: slot}); !slices.Equal(got.Events, []api.Event{want}) {
			t.Errorf("slot %d: events %v, not %v", slot, got.Events, want)
		}
	}
}

// F2, P1
func TestOpenRefuses(t *testing.T) {
	for _, x := range []struct {
		name      string
		l         []api.Arrival
		slot      int
		do        func(d *api.Domain)
		last, now int
		want      api.Errno
	}{
		{"slot below 0", nil, -1, func(d *api.Domain) {}, 0, 0, api.ErrNone},
		{"slot that is none", nil, 4, func(d *api.Domain) {}, 0, 0, api.ErrNone},
		{"greatest slot", nil, math.MaxInt, func(d *api.Domain) {}, 0, 0, api.ErrNone},
		{"slot ahead of the domain", nil, 4, func(d *api.Domain) { *d = api.Domain{} }, 0, 0, api.ErrNone},
		{"form of the domain", nil, 1, func(d *api.Domain) { *d = api.Domain{} }, 0, 0, api.ErrForm},
		{"job of another domain", nil, 3, func(d *api.Domain) {}, 0, 0, api.ErrNone},
		{"the domain ahead of arrivals", make([]api.Arrival, 41), 1, func(d *api.Domain) { d.Next = -1 }, 0, 0, api.ErrRange},
		{"too many arrivals", make([]api.Arrival, 41), 1, func(d *api.Domain) {}, -1, 0, api.ErrMany},
		{"arrival at no time", times(0, -1), 1, func(d *api.Domain) {}, 0, 0, api.ErrRange},
		{"arrival of no line", times(3, 1), 1, func(d *api.Domain) {}, -1, 0, api.ErrNone},
		{"last below 0", nil, 1, func(d *api.Domain) {}, -1, 0, api.ErrRange},
		{"last too great", nil, 1, func(d *api.Domain) {}, 100001, 0, api.ErrRange},
		{"now below 0", nil, 1, func(d *api.Domain) {}, 0, -1, api.ErrRange},
		{"now too great", nil, 1, func(d *api.Domain) {}, 0, 100001, api.ErrRange},
	} {
		d := busy()
		x.do(&d)
		if got, e := Open(trio(), x.l, x.slot, d, x.last, x.now); e != x.want || !reflect.DeepEqual(got, api.Domain{}) {
			t.Errorf("%s: %v, %d, not %d", x.name, got, e, x.want)
		}
	}
}

// all domains, with something in Out of each channel, wherever it begins, and in In.
func all() []api.Domain {
	l := []api.Domain{busy(), busy(), busy()}
	l[1].Jobs, l[2].Jobs = nil, nil
	return l
}

// F3
func TestClose(t *testing.T) {
	for slot, do := range []func(l []api.Domain){
		func(l []api.Domain) {},
		func(l []api.Domain) {
			l[1].In[0] = api.Ring{Values: []int{1, 5}, Lost: 1}
			l[2].In[2] = api.Ring{Values: []int{8}}
			l[0].Out[0], l[0].Out[2] = nil, nil
		},
		func(l []api.Domain) {},
		func(l []api.Domain) {
			l[0].In[1] = api.Ring{Values: []int{2, 3, 7}, Lost: 4}
			l[1].Out[1] = nil
		},
	} {
		want := all()
		do(want)
		got, e := Close(trio(), all(), slot)
		if e != api.OK || !reflect.DeepEqual(settled(got), settled(want)) {
			t.Errorf("slot %d: %v, %d, not %v", slot, got, e, want)
		}
	}
}

// settled makes lists without elements nil: they may come out either way.
func settled(l []api.Domain) []api.Domain {
	for i := range l {
		l[i].Jobs = settle(l[i].Jobs)
		for j := range l[i].In {
			l[i].In[j].Values = settle(l[i].In[j].Values)
		}
		for j := range l[i].Out {
			l[i].Out[j] = settle(l[i].Out[j])
		}
	}
	return l
}

func settle[T any](l []T) []T {
	if len(l) == 0 {
		return nil
	}
	return l
}

// F3: nothing is sent twice.
func TestCloseTwice(t *testing.T) {
	once, _ := Close(trio(), all(), 1)
	twice, e := Close(trio(), once, 1)
	if e != api.OK || !reflect.DeepEqual(settled(once), settled(twice)) {
		t.Errorf("%v, %d, not %v", twice, e, once)
	}
}

// F3: what there is no room for is lost.
func TestCloseLoses(t *testing.T) {
	l := all()
	l[0].Out[2] = make([]int, 60)
	l[2].In[2] = api.Ring{Values: []int{9}, Lost: 99950}
	got, e := Close(trio(), l, 1)
	if e != api.OK || !reflect.DeepEqual(got[2].In[2], api.Ring{Values: []int{9, 0, 0}, Lost: 100000}) || len(got[0].Out[2]) != 0 {
		t.Errorf("%v, %d", got, e)
	}
}

// F3, P1
func TestCloseRefuses(t *testing.T) {
	for _, x := range []struct {
		name string
		slot int
		do   func(l []api.Domain) []api.Domain
		want api.Errno
	}{
		{"slot below 0", -1, func(l []api.Domain) []api.Domain { return l }, api.ErrNone},
		{"slot that is none", 4, func(l []api.Domain) []api.Domain { return l }, api.ErrNone},
		{"greatest slot", math.MaxInt, func(l []api.Domain) []api.Domain { return l }, api.ErrNone},
		{"slot ahead of how many", 4, func(l []api.Domain) []api.Domain { return nil }, api.ErrNone},
		{"none", 0, func(l []api.Domain) []api.Domain { return nil }, api.ErrForm},
		{"one less", 0, func(l []api.Domain) []api.Domain { return l[:2] }, api.ErrForm},
		{"one more", 0, func(l []api.Domain) []api.Domain { return append(l, l[2]) }, api.ErrForm},
		{"how many ahead of each", 0, func(l []api.Domain) []api.Domain { l[0].Next = -1; return l[:2] }, api.ErrForm},
		{"the first one", 0, func(l []api.Domain) []api.Domain { l[0].Next = -1; return l }, api.ErrRange},
		{"the last one", 0, func(l []api.Domain) []api.Domain { l[2].Out[1] = make([]int, 61); return l }, api.ErrMany},
		{"job of another domain", 0, func(l []api.Domain) []api.Domain { l[1], l[0] = l[0], l[1]; return l }, api.ErrNone},
		{"one by one", 0, func(l []api.Domain) []api.Domain { l[1].Out[1] = make([]int, 61); l[2] = api.Domain{}; return l }, api.ErrMany},
	} {
		if l, e := Close(trio(), x.do(all()), x.slot); e != x.want || len(l) != 0 {
			t.Errorf("%s: %v, %d, not %d", x.name, l, e, x.want)
		}
	}
}

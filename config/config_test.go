package config

import (
	"math"
	"reflect"
	"slices"
	"testing"

	"clockwall/api"
)

// small has as little as may be.
func small() api.Config {
	return api.Config{Sets: 1, Ways: 1, Domains: 1, Pad: 7, Quantum: 1, Slots: []api.Slot{{Domain: 0, Length: 100}}}
}

// plain has two of most things.
func plain() api.Config {
	return api.Config{
		Sets: 2, Ways: 2, Domains: 3, Pad: 30, Quantum: 10,
		Slots:    []api.Slot{{Domain: 0, Length: 120}, {Domain: 1, Length: 300}},
		Owners:   []int{0, 2},
		Channels: []api.Channel{{From: 0, To: 1, Size: 2}, {From: 1, To: 0, Size: 3}},
		Tasks:    []api.Task{{Domain: 0, Period: 100, Budget: 60, Deadline: 90}, {Domain: 2, Period: 400, Budget: 300, Deadline: 258}},
	}
}

// great has as much as may be.
func great() api.Config {
	return api.Config{
		Sets: 4, Ways: 3, Domains: 4, Pad: 99, Quantum: 100,
		Slots:    slices.Repeat([]api.Slot{{Domain: 3, Length: 1000}}, 6),
		Owners:   []int{3, 3, 3, 3},
		Channels: []api.Channel{{From: 0, To: 1, Size: 4}, {From: 1, To: 2, Size: 4}, {From: 2, To: 3, Size: 4}, {From: 3, To: 0, Size: 4}},
		Tasks:    slices.Repeat([]api.Task{{Domain: 3, Period: 5000, Budget: 5000, Deadline: 5000}}, 6),
	}
}

func rights() []api.Config { return []api.Config{small(), plain(), great()} }

// changes of a plain config, and what Check says of it then.
var changes = []struct {
	name string
	do   func(c *api.Config)
	want api.Errno
}{
	{"nothing", func(c *api.Config) {}, api.OK},

	{"no sets", func(c *api.Config) { c.Sets = 0 }, api.ErrRange},
	{"five sets", func(c *api.Config) { c.Sets = 5 }, api.ErrRange},
	{"sets below 0", func(c *api.Config) { c.Sets = math.MinInt }, api.ErrRange},
	{"most sets", func(c *api.Config) { c.Sets, c.Pad = 4, 42 }, api.OK},
	{"no ways", func(c *api.Config) { c.Ways = 0 }, api.ErrRange},
	{"four ways", func(c *api.Config) { c.Ways = 4 }, api.ErrRange},
	{"most ways", func(c *api.Config) { c.Ways, c.Pad = 3, 32 }, api.OK},
	{"no domains", func(c *api.Config) { c.Domains = 0 }, api.ErrRange},
	{"five domains", func(c *api.Config) { c.Domains = 5 }, api.ErrRange},
	{"most domains", func(c *api.Config) { c.Domains = 4 }, api.OK},
	{"no quantum", func(c *api.Config) { c.Quantum = 0 }, api.ErrRange},
	{"quantum above the most", func(c *api.Config) { c.Quantum = 101 }, api.ErrRange},
	{"least quantum", func(c *api.Config) { c.Quantum = 1 }, api.OK},
	{"most quantum", func(c *api.Config) { c.Quantum = 100 }, api.OK},
	{"numbers that wrap round", func(c *api.Config) { c.Sets, c.Ways = math.MaxInt, math.MaxInt }, api.ErrRange},

	{"pad less than a flush", func(c *api.Config) { c.Pad = 21 }, api.ErrState},
	{"pad as a flush", func(c *api.Config) { c.Pad = 22 }, api.OK},
	{"pad of a greater cache", func(c *api.Config) { c.Sets, c.Ways, c.Pad = 4, 3, 61 }, api.ErrState},
	{"pad as the greatest flush", func(c *api.Config) { c.Sets, c.Ways, c.Pad = 4, 3, 62 }, api.OK},
	{"pad less than a slot", func(c *api.Config) { c.Pad = 99 }, api.OK},
	{"pad as a slot", func(c *api.Config) { c.Pad = 100 }, api.ErrState},
	{"pad below 0", func(c *api.Config) { c.Pad = math.MinInt }, api.ErrState},

	{"no slots", func(c *api.Config) { c.Slots = nil }, api.ErrMany},
	{"seven slots", func(c *api.Config) { c.Slots = slices.Repeat(c.Slots[:1], 7) }, api.ErrMany},
	{"most slots", func(c *api.Config) { c.Slots = slices.Repeat(c.Slots[:1], 6) }, api.OK},
	{"no owners", func(c *api.Config) { c.Owners = nil }, api.OK},
	{"five owners", func(c *api.Config) { c.Owners = make([]int, 5) }, api.ErrMany},
	{"most owners", func(c *api.Config) { c.Owners = make([]int, 4) }, api.OK},
	{"no channels", func(c *api.Config) { c.Channels = nil }, api.OK},
	{"five channels", func(c *api.Config) {
		c.Channels = append(c.Channels, api.Channel{From: 0, To: 2, Size: 1}, api.Channel{From: 1, To: 2, Size: 1}, api.Channel{From: 2, To: 0, Size: 1})
	}, api.ErrMany},
	{"most channels", func(c *api.Config) {
		c.Channels = append(c.Channels, api.Channel{From: 0, To: 2, Size: 1}, api.Channel{From: 1, To: 2, Size: 1})
	}, api.OK},
	{"no tasks", func(c *api.Config) { c.Tasks = nil }, api.OK},
	{"seven tasks", func(c *api.Config) { c.Tasks = slices.Repeat(c.Tasks[:1], 7) }, api.ErrMany},
	{"most tasks", func(c *api.Config) { c.Tasks = slices.Repeat(c.Tasks[:1], 6) }, api.OK},

	{"slot of no domain", func(c *api.Config) { c.Slots[1].Domain = 3 }, api.ErrNone},
	{"slot of a domain below 0", func(c *api.Config) { c.Slots[0].Domain = -1 }, api.ErrNone},
	{"slot of the last domain", func(c *api.Config) { c.Slots[1].Domain = 2 }, api.OK},
	{"slot too short", func(c *api.Config) { c.Slots[1].Length = 99 }, api.ErrRange},
	{"shortest slot", func(c *api.Config) { c.Slots[1].Length = 100 }, api.OK},
	{"slot too long", func(c *api.Config) { c.Slots[1].Length = 1001 }, api.ErrRange},
	{"longest slot", func(c *api.Config) { c.Slots[1].Length = 1000 }, api.OK},

	{"owner below 0", func(c *api.Config) { c.Owners[0] = -1 }, api.ErrNone},
	{"owner that is none", func(c *api.Config) { c.Owners[1] = 3 }, api.ErrNone},

	{"channel from none", func(c *api.Config) { c.Channels[1].From = 3 }, api.ErrNone},
	{"channel from below 0", func(c *api.Config) { c.Channels[0].From = -1 }, api.ErrNone},
	{"channel to none", func(c *api.Config) { c.Channels[1].To = 3 }, api.ErrNone},
	{"channel to below 0", func(c *api.Config) { c.Channels[0].To = -1 }, api.ErrNone},
	{"channel to itself", func(c *api.Config) { c.Channels[1].To = 1 }, api.ErrForm},
	{"channel of no size", func(c *api.Config) { c.Channels[0].Size = 0 }, api.ErrRange},
	{"channel too great", func(c *api.Config) { c.Channels[1].Size = 5 }, api.ErrRange},
	{"least channel", func(c *api.Config) { c.Channels[1].Size = 1 }, api.OK},
	{"greatest channel", func(c *api.Config) { c.Channels[1].Size = 4 }, api.OK},
	{"channel twice", func(c *api.Config) { c.Channels = append(c.Channels, api.Channel{From: 0, To: 1, Size: 1}) }, api.ErrTwice},
	{"channels from one domain", func(c *api.Config) { c.Channels[1] = api.Channel{From: 0, To: 2, Size: 2} }, api.OK},
	{"channels to one domain", func(c *api.Config) { c.Channels[1] = api.Channel{From: 2, To: 1, Size: 2} }, api.OK},

	{"task of no domain", func(c *api.Config) { c.Tasks[1].Domain = 3 }, api.ErrNone},
	{"task of a domain below 0", func(c *api.Config) { c.Tasks[0].Domain = -1 }, api.ErrNone},
	{"no period", func(c *api.Config) { c.Tasks[0] = api.Task{} }, api.ErrRange},
	{"period too great", func(c *api.Config) { c.Tasks[1].Period = 5001 }, api.ErrRange},
	{"least task", func(c *api.Config) { c.Tasks[0] = api.Task{Period: 1, Budget: 1, Deadline: 1} }, api.OK},
	{"greatest period", func(c *api.Config) { c.Tasks[1].Period = 5000 }, api.OK},
	{"no budget", func(c *api.Config) { c.Tasks[0].Budget = 0 }, api.ErrRange},
	{"budget above the period", func(c *api.Config) { c.Tasks[0].Budget = 101 }, api.ErrRange},
	{"budget as the period", func(c *api.Config) { c.Tasks[0].Budget = 100 }, api.OK},
	{"no deadline", func(c *api.Config) { c.Tasks[1].Deadline = 0 }, api.ErrRange},
	{"deadline above the period", func(c *api.Config) { c.Tasks[1].Deadline = 401 }, api.ErrRange},
	{"deadline as the period", func(c *api.Config) { c.Tasks[1].Deadline = 400 }, api.OK},

	{"numbers ahead of the pad", func(c *api.Config) { c.Quantum, c.Pad = 0, 0 }, api.ErrRange},
	{"pad ahead of how many", func(c *api.Config) { c.Pad, c.Slots = 100, nil }, api.ErrState},
	{"how many slots ahead of an owner", func(c *api.Config) { c.Slots, c.Owners[0] = nil, -1 }, api.ErrMany},
	{"how many tasks ahead of a slot", func(c *api.Config) { c.Tasks, c.Slots[0].Domain = make([]api.Task, 7), 3 }, api.ErrMany},
	{"how many owners ahead of a slot", func(c *api.Config) { c.Owners, c.Slots[0].Length = make([]int, 5), 1 }, api.ErrMany},
	{"how many channels ahead of a slot", func(c *api.Config) { c.Channels, c.Slots[0].Length = make([]api.Channel, 5), 1 }, api.ErrMany},
	{"a slot's domain ahead of its length", func(c *api.Config) { c.Slots[0] = api.Slot{Domain: 3} }, api.ErrNone},
	{"a slot's length ahead of the next one's domain", func(c *api.Config) { c.Slots[0].Length, c.Slots[1].Domain = 1, 3 }, api.ErrRange},
	{"a slot ahead of an owner", func(c *api.Config) { c.Slots[1].Length, c.Owners[0] = 1, 3 }, api.ErrRange},
	{"an owner ahead of a channel", func(c *api.Config) { c.Owners[1], c.Channels[0].To = 3, 0 }, api.ErrNone},
	{"a channel's end ahead of the same", func(c *api.Config) { c.Channels[0] = api.Channel{From: 3, To: 3, Size: 1} }, api.ErrNone},
	{"a channel to itself ahead of its size", func(c *api.Config) { c.Channels[0] = api.Channel{} }, api.ErrForm},
	{"a channel's size ahead of twice", func(c *api.Config) { c.Channels[1] = api.Channel{From: 0, To: 1} }, api.ErrRange},
	{"a channel ahead of the next one", func(c *api.Config) { c.Channels[0].Size, c.Channels[1].To = 0, 3 }, api.ErrRange},
	{"twice ahead of the next one", func(c *api.Config) {
		c.Channels = append(c.Channels, api.Channel{From: 1, To: 0, Size: 4}, api.Channel{From: 3})
	}, api.ErrTwice},
	{"a channel ahead of a task", func(c *api.Config) { c.Channels[1].To, c.Tasks[0].Domain = 1, 3 }, api.ErrForm},
	{"a task's domain ahead of its numbers", func(c *api.Config) { c.Tasks[0] = api.Task{Domain: 3} }, api.ErrNone},
	{"a task ahead of the next one", func(c *api.Config) { c.Tasks[0].Budget, c.Tasks[1].Domain = 0, 3 }, api.ErrRange},
}

// B1
func TestCheck(t *testing.T) {
	for i, c := range rights() {
		if e := Check(c); e != api.OK {
			t.Errorf("config %d: %d", i, e)
		}
	}
	if e := Check(api.Config{}); e != api.ErrRange {
		t.Errorf("no config: %d", e)
	}
	for _, x := range changes {
		c := plain()
		x.do(&c)
		if e := Check(c); e != x.want {
			t.Errorf("%s: %d, not %d", x.name, e, x.want)
		}
	}
}

// B1, P1
func TestOthersTellCheckFirst(t *testing.T) {
	for _, x := range changes {
		c := plain()
		x.do(&c)
		s, e := Encode(c)
		if e != x.want || (s == "") != (x.want != api.OK) {
			t.Errorf("%s: Encode = %q, %d", x.name, s, e)
		}
		l, e := Reach(c)
		if e != x.want || (l == nil) != (x.want != api.OK) {
			t.Errorf("%s: Reach = %v, %d", x.name, l, e)
		}
	}
}

// paths looks along each way that never enters a domain twice.
func paths(c api.Config, from, to int, been []int) bool {
	if from == to {
		return true
	}
	for _, l := range c.Channels {
		if l.From == from && !slices.Contains(been, l.To) && paths(c, l.To, to, append(slices.Clone(been), l.To)) {
			return true
		}
	}
	return false
}

// B4
func TestReach(t *testing.T) {
	ch := func(from, to int) api.Channel { return api.Channel{From: from, To: to, Size: 1} }
	for _, x := range []struct {
		name     string
		channels []api.Channel
		want     [][]bool
	}{
		{"none", nil, [][]bool{{true, false, false, false}, {false, true, false, false}, {false, false, true, false}, {false, false, false, true}}},
		{"one", []api.Channel{ch(2, 0)}, [][]bool{{true, false, false, false}, {false, true, false, false}, {true, false, true, false}, {false, false, false, true}}},
		{"a chain", []api.Channel{ch(0, 1), ch(1, 2), ch(2, 3)}, [][]bool{{true, true, true, true}, {false, true, true, true}, {false, false, true, true}, {false, false, false, true}}},
		{"that chain, told from its end", []api.Channel{ch(2, 3), ch(1, 2), ch(0, 1)}, [][]bool{{true, true, true, true}, {false, true, true, true}, {false, false, true, true}, {false, false, false, true}}},
		{"a chain down", []api.Channel{ch(3, 2), ch(2, 1), ch(1, 0)}, [][]bool{{true, false, false, false}, {true, true, false, false}, {true, true, true, false}, {true, true, true, true}}},
		{"a circle", []api.Channel{ch(0, 1), ch(1, 0), ch(2, 1)}, [][]bool{{true, true, false, false}, {true, true, false, false}, {true, true, true, false}, {false, false, false, true}}},
		{"two to one", []api.Channel{ch(0, 3), ch(1, 3)}, [][]bool{{true, false, false, true}, {false, true, false, true}, {false, false, true, false}, {false, false, false, true}}},
	} {
		c := small()
		c.Domains, c.Channels = 4, x.channels
		if got, e := Reach(c); e != api.OK || !reflect.DeepEqual(got, x.want) {
			t.Errorf("%s: %v, %d", x.name, got, e)
		}
	}
}

// B4: all sets of channels that there may be.
func TestReachOfAllChannels(t *testing.T) {
	for domains := 1; domains <= 4; domains++ {
		var all []api.Channel
		for i := range domains * domains {
			if i/domains != i%domains {
				all = append(all, api.Channel{From: i / domains, To: i % domains, Size: 1})
			}
		}
		for set := range 1 << len(all) {
			c := small()
			c.Domains = domains
			for i, l := range all {
				if set>>i&1 == 1 {
					c.Channels = append(c.Channels, l)
				}
			}
			if len(c.Channels) <= 4 {
				reachIsPaths(t, c)
			}
		}
	}
}

func reachIsPaths(t *testing.T, c api.Config) {
	t.Helper()
	got, e := Reach(c)
	if e != api.OK || len(got) != c.Domains {
		t.Fatalf("%v: %v, %d", c.Channels, got, e)
	}
	for from, row := range got {
		if len(row) != c.Domains {
			t.Fatalf("%v: %v", c.Channels, got)
		}
		for to, reached := range row {
			if reached != paths(c, from, to, []int{from}) {
				t.Fatalf("%v: from %d to %d: %v", c.Channels, from, to, reached)
			}
		}
	}
}

// roomy is a plain config with spare room behind each list.
func roomy() api.Config {
	c := plain()
	c.Slots = append(c.Slots, api.Slot{Domain: 70}, api.Slot{Domain: 71})[:2]
	c.Owners = append(c.Owners, 72, 73)[:2]
	c.Channels = append(c.Channels, api.Channel{From: 74}, api.Channel{From: 75})[:2]
	c.Tasks = append(c.Tasks, api.Task{Domain: 76}, api.Task{Domain: 77})[:2]
	return c
}

// whole copies all memory of a config, the spare room too.
func whole(c api.Config) api.Config {
	c.Slots = slices.Clone(c.Slots[:cap(c.Slots)])
	c.Owners = slices.Clone(c.Owners[:cap(c.Owners)])
	c.Channels = slices.Clone(c.Channels[:cap(c.Channels)])
	c.Tasks = slices.Clone(c.Tasks[:cap(c.Tasks)])
	return c
}

// P2
func TestWhatIsHandedInIsOnlyRead(t *testing.T) {
	c := roomy()
	before := whole(c)
	Check(c)
	Encode(c)
	Reach(c)
	if after := whole(c); !reflect.DeepEqual(before, after) {
		t.Errorf("it was\n%v\nand is\n%v", before, after)
	}
}

// P2: no two rows of an answer share memory.
func TestReachRowsAreApart(t *testing.T) {
	l, _ := Reach(lonely())
	for i, row := range l {
		all := row[:cap(row)]
		for j := range all {
			all[j] = true
		}
		for k, other := range l[i+1:] {
			if slices.Index(other, true) != i+1+k {
				t.Errorf("row %d changes row %d to %v", i, i+1+k, other)
			}
		}
	}
}

// lonely has four domains, none of which reaches another one.
func lonely() api.Config {
	c := small()
	c.Domains = 4
	return c
}

// P2, P3
func TestSameEachTime(t *testing.T) {
	first, _ := Reach(plain())
	first[0][2] = !first[0][2]
	second, _ := Reach(plain())
	if want := [][]bool{{true, true, false}, {true, true, false}, {false, false, true}}; !reflect.DeepEqual(second, want) {
		t.Errorf("Reach = %v", second)
	}
	one, _ := Encode(plain())
	Encode(great())
	if two, _ := Encode(plain()); one != two {
		t.Errorf("Encode = %x, then %x", one, two)
	}
}

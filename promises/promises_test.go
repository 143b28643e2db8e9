// Package promises tests what the document promises for all chapters (P1, P2, P3), of every call that is built.
package promises

import (
	"math"
	"reflect"
	"testing"

	"clockwall/apart"
	"clockwall/api"
	"clockwall/cache"
	"clockwall/clone"
	"clockwall/config"
	"clockwall/exec"
	"clockwall/mail"
	"clockwall/ready"
	"clockwall/turn"
	"clockwall/window"
)

func machine() api.Config {
	return api.Config{
		Sets: 2, Ways: 2, Domains: 2, Pad: 30, Quantum: 10,
		Slots:    []api.Slot{{Domain: 0, Length: 120}, {Domain: 1, Length: 200}},
		Owners:   []int{0, 1, 0},
		Channels: []api.Channel{{From: 0, To: 1, Size: 2}, {From: 1, To: 0, Size: 3}},
		Tasks:    []api.Task{{Domain: 0, Period: 100, Budget: 60, Deadline: 100}, {Domain: 1, Period: 80, Budget: 70, Deadline: 40}},
	}
}

// domain of the machine, with something in each of its fields.
func domain(number int) api.Domain {
	return api.Domain{
		Jobs:     []api.Job{{Task: number, Number: 1, Released: 100, Used: 3, Ran: true}, {Task: number, Released: 20}},
		Released: []int{2, 3},
		Next:     1,
		In:       []api.Ring{{Values: []int{1}}, {Values: []int{2, 3}, Lost: 4}},
		Taken:    []int{1, 2, 3},
		Out:      [][]int{{4}, {5, 6}},
		Events:   []api.Event{{At: 9, Kind: api.EventOpen, A: 1}},
	}
}

func filled() api.Cache {
	return api.Cache{Sets: [][]api.Way{{{Line: 2}, {Line: 4, Dirty: true}}, {{Line: 1, Dirty: true}, {Line: 3}}}}
}

func actions() []api.Action {
	return []api.Action{
		{Kind: api.ActWait}, {Kind: api.ActRead, N: 6}, {Kind: api.ActSend, N: 0, Value: 7}, {Kind: api.ActReceive, N: 1}, {Kind: api.ActTake, N: 2},
		{Kind: api.ActClock}, {Kind: api.ActTake, N: 1}, {Kind: api.ActWait}, {Kind: api.ActWrite, N: 5}, {Kind: api.ActCompute, N: 9}, {Kind: api.ActWait},
	}
}

func arrivals() []api.Arrival {
	return []api.Arrival{{At: 50, Line: 0}, {At: 60, Line: 1}, {At: 70, Line: 2}}
}

func script() api.Script {
	return api.Script{Actions: [][]api.Action{actions(), actions()}, Arrivals: arrivals(), Rounds: 2}
}

// resting: a script in which nothing is done.
func resting() api.Script { return api.Script{Actions: make([][]api.Action, 2)} }

// call with arguments that it takes.
type call struct {
	name string
	f    any
	args []any
}

func calls() []call {
	image, _ := config.Encode(machine())
	return []call{
		{"cache.New", cache.New, []any{2, 2}},
		{"cache.Check", cache.Check, []any{filled()}},
		{"cache.Access", cache.Access, []any{filled(), 6, true}},
		{"cache.Flush", cache.Flush, []any{filled()}},
		{"config.Check", config.Check, []any{machine()}},
		{"config.Encode", config.Encode, []any{machine()}},
		{"config.Decode", config.Decode, []any{image}},
		{"config.Reach", config.Reach, []any{machine()}},
		{"mail.Check", mail.Check, []any{api.Ring{Values: []int{1, 2}}, 3}},
		{"mail.Commit", mail.Commit, []any{api.Ring{Values: []int{1, 2}}, 3, []int{4, 5}}},
		{"mail.Receive", mail.Receive, []any{api.Ring{Values: []int{1, 2}}, 3}},
		{"mail.Arrived", mail.Arrived, []any{machine(), arrivals(), 0, 55, 80}},
		{"ready.Check", ready.Check, []any{machine(), 1, domain(1)}},
		{"ready.New", ready.New, []any{machine(), 1}},
		{"ready.Release", ready.Release, []any{machine(), 1, domain(1), 300}},
		{"ready.Pick", ready.Pick, []any{machine(), 1, domain(1)}},
		{"ready.Due", ready.Due, []any{machine(), 1, domain(1)}},
		{"window.Cost of a read", window.Cost, []any{filled(), api.Action{Kind: api.ActRead, N: 6}}},
		{"window.Cost of a wait", window.Cost, []any{filled(), api.Action{Kind: api.ActWait}}},
		{"window.Worst", window.Worst, []any{api.Action{Kind: api.ActSend, N: 1, Value: 2}}},
		{"window.Run", window.Run, []any{machine(), 0, domain(0), filled(), actions(), 130, 400}},
		{"window.Run of no time", window.Run, []any{machine(), 1, domain(1), filled(), actions(), 130, 130}},
		{"window.Run of nothing", window.Run, []any{machine(), 1, domain(1), filled(), []api.Action{}, 130, 400}},
		{"turn.Length", turn.Length, []any{machine()}},
		{"turn.Start", turn.Start, []any{machine(), 2, 1}},
		{"turn.Open", turn.Open, []any{machine(), arrivals(), 0, domain(0), 40, 80}},
		{"turn.Close", turn.Close, []any{machine(), []api.Domain{domain(0), domain(1)}, 0}},
		{"exec.Check", exec.Check, []any{machine(), script()}},
		{"exec.Run", exec.Run, []any{machine(), script()}},
		{"exec.Run of nothing", exec.Run, []any{machine(), resting()}},
		{"exec.Trace", exec.Trace, []any{machine(), script(), 1}},
		{"apart.Run", apart.Run, []any{machine(), script()}},
		{"apart.Run of nothing", apart.Run, []any{machine(), resting()}},
		{"apart.Only", apart.Only, []any{machine(), script(), 1}},
		{"apart.Alone", apart.Alone, []any{machine(), script(), 0}},
		{"clone.Cache", clone.Cache, []any{filled()}},
		{"clone.Domain", clone.Domain, []any{domain(0)}},
	}
}

// arguments of a call, made anew, so that they may be changed.
func (c call) arguments() []reflect.Value {
	var l []reflect.Value
	for _, a := range c.args {
		v := reflect.New(reflect.TypeOf(a)).Elem()
		v.Set(roomy(reflect.ValueOf(a)))
		l = append(l, v)
	}
	return l
}

func (c call) do(args []reflect.Value) []reflect.Value { return reflect.ValueOf(c.f).Call(args) }

// P2: what is handed in is only read, the spare room too, and no memory of the answer is of it, or in it twice.
func TestMemory(t *testing.T) {
	for _, c := range calls() {
		args := c.arguments()
		before := each(whole, args)
		out := c.do(args)
		if e, ok := out[len(out)-1].Interface().(api.Errno); ok && e != api.OK {
			t.Fatalf("%s: error %d", c.name, e)
		}
		if after := each(whole, args); !same(before, after) {
			t.Errorf("%s: what was handed in is %v, not %v", c.name, after, before)
		}
		var theirs, ours []room
		for _, v := range args {
			theirs = append(theirs, rooms(v)...)
		}
		for _, v := range out {
			ours = append(ours, rooms(v)...)
		}
		for i, r := range ours {
			for _, other := range append(ours[:i:i], theirs...) {
				if r.meets(other) {
					t.Errorf("%s: the answer shares memory", c.name)
				}
			}
		}
	}
}

// P2, P3: whatever was called ahead, and whatever became of what was handed in and of what came out.
func TestSameEachTime(t *testing.T) {
	var first [][]reflect.Value
	for _, c := range calls() {
		args := c.arguments()
		out := c.do(args)
		first = append(first, each(bare, out))
		for _, v := range append(args, out...) {
			spoil(v)
		}
	}
	for i, c := range calls() {
		if again := each(bare, c.do(c.arguments())); !same(again, first[i]) {
			t.Errorf("%s: %v, then %v", c.name, first[i], again)
		}
	}
}

// P1: no call panics; with an error all else is its zero value.
func TestWrongArguments(t *testing.T) {
	for _, c := range calls() {
		args := c.arguments()
		var all []func() func()
		for _, v := range args {
			all = append(all, changes(v)...)
		}
		for i, change := range all {
			back := change()
			tryCall(t, c, args)
			// A second change, some other one each time.
			backToo := all[(i*7919+13)%len(all)]()
			tryCall(t, c, args)
			backToo()
			back()
		}
	}
}

func tryCall(t *testing.T, c call, args []reflect.Value) {
	t.Helper()
	defer func() {
		if r := recover(); r != nil {
			t.Fatalf("%s: panics: %v, with %v", c.name, r, args)
		}
	}()
	out := c.do(args)
	last := len(out) - 1
	if e, ok := out[last].Interface().(api.Errno); !ok || e == api.OK {
		return
	}
	for i, v := range out[:last] {
		place := c.name == "config.Decode" && i == 1
		if !place && !bare(v).IsZero() {
			t.Errorf("%s: %v, with an error, with %v", c.name, out, args)
		}
	}
}

// changes of each number and list in a thing; each answers how it is taken back.
func changes(v reflect.Value) []func() func() {
	var l []func() func()
	to := func(n any) {
		l = append(l, func() func() {
			old := reflect.ValueOf(v.Interface())
			v.Set(reflect.ValueOf(n).Convert(v.Type()))
			return func() { v.Set(old) }
		})
	}
	switch v.Kind() {
	case reflect.Int:
		for _, n := range []int{math.MinInt, -1, 0, 1, 2, 5, 21, 61, 256, 1001, 100000, 100001, math.MaxInt} {
			to(n)
		}
	case reflect.Bool:
		to(!v.Bool())
	case reflect.String:
		for i := range v.Len() {
			to(v.String()[:i])
			to(v.String()[:i] + "\xff" + v.String()[i+1:])
		}
	case reflect.Slice:
		to(reflect.Zero(v.Type()).Interface())
		to(longer(v, 1).Interface())
		to(longer(v, 100).Interface())
		for i := range v.Len() {
			to(v.Slice(0, i).Interface())
			l = append(l, changes(v.Index(i))...)
		}
	case reflect.Struct:
		for i := range v.NumField() {
			l = append(l, changes(v.Field(i))...)
		}
	}
	return l
}

func longer(v reflect.Value, by int) reflect.Value {
	l := whole(v.Slice3(0, v.Len(), v.Len()))
	for range by {
		l = reflect.Append(l, reflect.Zero(v.Type().Elem()))
	}
	return l
}

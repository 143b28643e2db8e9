package window

import (
	"math"
	"reflect"
	"testing"

	"clockwall/api"
)

func compute(n int) api.Action       { return api.Action{Kind: api.ActCompute, N: n} }
func read(line int) api.Action       { return api.Action{Kind: api.ActRead, N: line} }
func write(line int) api.Action      { return api.Action{Kind: api.ActWrite, N: line} }
func send(channel, v int) api.Action { return api.Action{Kind: api.ActSend, N: channel, Value: v} }
func receive(channel int) api.Action { return api.Action{Kind: api.ActReceive, N: channel} }
func take(line int) api.Action       { return api.Action{Kind: api.ActTake, N: line} }
func clock() api.Action              { return api.Action{Kind: api.ActClock} }
func wait() api.Action               { return api.Action{Kind: api.ActWait} }

func way(line int) api.Way          { return api.Way{Line: line} }
func written(line int) api.Way      { return api.Way{Line: line, Dirty: true} }
func set(l ...api.Way) []api.Way    { return l }
func sets(l ...[]api.Way) api.Cache { return api.Cache{Sets: l} }

// blank cache of two sets of two ways.
func blank() api.Cache { return sets(set(way(0), way(0)), set(way(0), way(0))) }

// E1
func TestWorst(t *testing.T) {
	for _, x := range []struct {
		a    api.Action
		want int
	}{
		{compute(1), 1}, {compute(7), 7}, {compute(200), 200},
		{read(1), 15}, {read(1000), 15}, {write(1), 15}, {write(1000), 15},
		{send(0, 0), 3}, {send(3, 255), 3}, {send(math.MaxInt, 1), 3},
		{receive(0), 3}, {receive(math.MaxInt), 3},
		{take(0), 3}, {take(math.MaxInt), 3},
		{clock(), 3}, {wait(), 3},
	} {
		if got, e := Worst(x.a); got != x.want || e != api.OK {
			t.Errorf("Worst(%v) = %d, %d, not %d", x.a, got, e, x.want)
		}
	}
}

// wrong actions, with what is told of them: ErrKind ahead of ErrRange, that ahead of ErrForm.
var wrong = []struct {
	a    api.Action
	want api.Errno
}{
	{api.Action{}, api.ErrKind},
	{api.Action{Kind: -1, N: 1}, api.ErrKind},
	{api.Action{Kind: 9}, api.ErrKind},
	{api.Action{Kind: 9, N: -1, Value: -1}, api.ErrKind},
	{api.Action{Kind: math.MinInt}, api.ErrKind},
	{api.Action{Kind: math.MaxInt}, api.ErrKind},
	{compute(0), api.ErrRange},
	{compute(-1), api.ErrRange},
	{compute(201), api.ErrRange},
	{api.Action{Kind: api.ActCompute, N: 0, Value: 1}, api.ErrRange},
	{api.Action{Kind: api.ActCompute, N: 200, Value: 1}, api.ErrForm},
	{api.Action{Kind: api.ActCompute, N: 1, Value: -1}, api.ErrForm},
	{read(0), api.ErrRange},
	{read(-1), api.ErrRange},
	{read(1001), api.ErrRange},
	{write(0), api.ErrRange},
	{write(1001), api.ErrRange},
	{write(math.MaxInt), api.ErrRange},
	{api.Action{Kind: api.ActRead, N: 1, Value: 1}, api.ErrForm},
	{api.Action{Kind: api.ActRead, N: 1001, Value: 1}, api.ErrRange},
	{api.Action{Kind: api.ActWrite, N: 1, Value: 256}, api.ErrForm},
	{send(-1, 0), api.ErrRange},
	{send(0, -1), api.ErrRange},
	{send(0, 256), api.ErrRange},
	{send(math.MinInt, 1), api.ErrRange},
	{receive(-1), api.ErrRange},
	{api.Action{Kind: api.ActReceive, N: -1, Value: 1}, api.ErrRange},
	{api.Action{Kind: api.ActReceive, N: 1, Value: 1}, api.ErrForm},
	{take(-1), api.ErrRange},
	{api.Action{Kind: api.ActTake, Value: 1}, api.ErrForm},
	{api.Action{Kind: api.ActClock, N: -1}, api.ErrRange},
	{api.Action{Kind: api.ActClock, N: 1}, api.ErrForm},
	{api.Action{Kind: api.ActClock, Value: 1}, api.ErrForm},
	{api.Action{Kind: api.ActWait, N: -1, Value: 1}, api.ErrRange},
	{api.Action{Kind: api.ActWait, N: 1}, api.ErrForm},
	{api.Action{Kind: api.ActWait, Value: -1}, api.ErrForm},
}

// E1, P1
func TestWrongActions(t *testing.T) {
	for _, x := range wrong {
		if n, e := Worst(x.a); n != 0 || e != x.want {
			t.Errorf("Worst(%v) = %d, %d, not %d", x.a, n, e, x.want)
		}
		if k, n, e := Cost(blank(), x.a); k.Sets != nil || n != 0 || e != x.want {
			t.Errorf("Cost(%v) = %v, %d, %d, not %d", x.a, k, n, e, x.want)
		}
		if k, n, e := Cost(api.Cache{}, x.a); k.Sets != nil || n != 0 || e != api.ErrRange {
			t.Errorf("Cost(%v) of no cache = %v, %d, %d", x.a, k, n, e)
		}
	}
}

// E1
func TestCostRefusesCaches(t *testing.T) {
	for _, x := range []struct {
		k    api.Cache
		want api.Errno
	}{
		{api.Cache{}, api.ErrRange},
		{sets(set(way(1), way(1))), api.ErrTwice},
		{sets(set(way(1)), set(way(1), way(3))), api.ErrForm},
		{sets(set(way(1)), set(way(3))), api.ErrState},
	} {
		for _, a := range []api.Action{compute(1), read(1), wait(), {}} {
			if k, n, e := Cost(x.k, a); k.Sets != nil || n != 0 || e != x.want {
				t.Errorf("Cost(%v, %v) = %v, %d, %d, not %d", x.k, a, k, n, e, x.want)
			}
		}
	}
}

// E1
func TestCost(t *testing.T) {
	full := func() api.Cache { return sets(set(way(2), written(4)), set(written(1), way(3))) }
	for _, x := range []struct {
		name string
		k    api.Cache
		a    api.Action
		cost int
		then api.Cache
	}{
		{"read, a miss", blank(), read(5), 10, sets(set(way(0), way(0)), set(way(5), way(0)))},
		{"write, a miss", blank(), write(4), 10, sets(set(written(4), way(0)), set(way(0), way(0)))},
		{"read, a hit", full(), read(3), 1, sets(set(way(2), written(4)), set(way(3), written(1)))},
		{"write, a hit", full(), write(2), 1, sets(set(written(2), written(4)), set(written(1), way(3)))},
		{"read, what was written goes back", full(), read(6), 15, sets(set(way(6), way(2)), set(written(1), way(3)))},
		{"write, what was written goes back", full(), write(6), 15, sets(set(written(6), way(2)), set(written(1), way(3)))},
		{"read, what was read is gone", full(), read(5), 10, sets(set(way(2), written(4)), set(way(5), written(1)))},
		{"compute", full(), compute(123), 123, full()},
		{"send", full(), send(9, 9), 3, full()},
		{"receive", full(), receive(1), 3, full()},
		{"clock", full(), clock(), 3, full()},
		{"take", full(), take(1), 3, full()},
		{"wait", full(), wait(), 3, full()},
	} {
		k, cost, e := Cost(x.k, x.a)
		if cost != x.cost || e != api.OK || !reflect.DeepEqual(k, x.then) {
			t.Errorf("%s: %v, %d, %d, not %v, %d", x.name, k, cost, e, x.then, x.cost)
		}
		if worst, _ := Worst(x.a); cost > worst {
			t.Errorf("%s: costs %d, more than %d", x.name, cost, worst)
		}
	}
}

package promises

import (
	"reflect"
	"slices"
	"testing"

	"clockwall/apart"
	"clockwall/api"
	"clockwall/cache"
	"clockwall/config"
	"clockwall/exec"
)

// draws is how many machines are tried.
const draws = 300

// run is exec.Run, where it must work.
func run(t *testing.T, c api.Config, s api.Script) ([]api.Domain, int) {
	t.Helper()
	domains, longest, e := exec.Run(c, s)
	if e != api.OK {
		t.Fatalf("Run(%v, %v): error %d", c, s, e)
	}
	return domains, longest
}

// No access costs more than a miss and what goes back, no flush more than all ways: and both come as high.
func TestCostsAreBounded(t *testing.T) {
	for sets := 1; sets <= api.MaxSets; sets++ {
		for ways := 1; ways <= api.MaxWays; ways++ {
			d := draw(sets*10 + ways)
			k, _ := cache.New(sets, ways)
			access, flush := 0, 0
			for range 500 {
				after, cost, e := cache.Access(k, d.n(1, 30), d.n(0, 3) > 0)
				if e != api.OK {
					t.Fatalf("Access of %v: error %d", k, e)
				}
				k, access = after, max(access, cost)
				_, cost, _ = cache.Flush(k)
				flush = max(flush, cost)
			}
			if access != 15 || flush != 2+5*sets*ways {
				t.Errorf("%d sets of %d ways: an access costs up to %d, a flush up to %d", sets, ways, access, flush)
			}
		}
	}
}

// What is encoded is decoded as it was, and nothing else is.
func TestImagesOfMachines(t *testing.T) {
	for seed := range draw(draws) {
		c := seed.config()
		image, e := config.Encode(c)
		if e != api.OK {
			t.Fatalf("Encode(%v): error %d", c, e)
		}
		back, at, e := config.Decode(image)
		if e != api.OK || at != 0 || !same(each(bare, values(back)), each(bare, values(c))) {
			t.Errorf("%v, %d, %d, not %v", back, at, e, c)
		}
		for i := range image {
			other := []byte(image)
			other[i] ^= byte(1 + i%255)
			checkImage(t, string(other))
			checkImage(t, image[:i])
			checkImage(t, image[:i]+image[i:i+1]+image[i:])
		}
	}
}

func values(things ...any) []reflect.Value {
	var l []reflect.Value
	for _, x := range things {
		l = append(l, reflect.ValueOf(x))
	}
	return l
}

// checkImage: whatever is decoded is that config's own image.
func checkImage(t *testing.T, image string) {
	t.Helper()
	c, _, e := config.Decode(image)
	if e != api.OK {
		return
	}
	if own, e := config.Encode(c); e != api.OK || own != image {
		t.Errorf("%q is decoded as %v, whose image is %q, %d", image, c, own, e)
	}
}

// What is received is what was committed, in order, but for what was lost.
func TestReceivedInOrder(t *testing.T) {
	received, lost := 0, 0
	for seed := range draw(draws) {
		c := seed.config()
		s := seed.script(c, 8)
		domains, _ := run(t, c, s)
		for i, l := range c.Channels {
			sent := sentBy(domains[l.From], s.Actions[l.From], i)
			ring := domains[l.To].In[i]
			got := append(gotBy(domains[l.To], i), ring.Values...)
			if len(got)+ring.Lost != len(sent) || !inOrder(got, sent) {
				t.Errorf("channel %d of %v: sent %v, got %v, lost %d", i, c, sent, got, ring.Lost)
			}
			received += len(got)
			lost += ring.Lost
		}
	}
	if received < draws/2 || lost < draws/2 {
		t.Errorf("only %d were received, %d lost", received, lost)
	}
}

// sentBy a domain into a channel of its own.
func sentBy(d api.Domain, l []api.Action, channel int) []int {
	var sent []int
	for _, a := range l[:d.Next] {
		if a.Kind == api.ActSend && a.N == channel {
			sent = append(sent, a.Value)
		}
	}
	return sent
}

// gotBy a domain from a channel, as its events tell.
func gotBy(d api.Domain, channel int) []int {
	var got []int
	for _, e := range d.Events {
		if e.Kind == api.EventGot && e.A == channel && e.B >= 0 {
			got = append(got, e.B)
		}
	}
	return got
}

// inOrder tells whether some of all are there, in the order of all.
func inOrder(some, all []int) bool {
	for _, n := range some {
		at := slices.Index(all, n)
		if at < 0 {
			return false
		}
		all = all[at+1:]
	}
	return true
}

// Nothing happens behind a window's end, and slots begin one behind the other, whatever happens in them.
func TestSlotsOneBehindTheOther(t *testing.T) {
	for seed := range draw(draws) {
		c := seed.config()
		rounds := seed.n(0, api.MaxRounds)
		domains, _ := run(t, c, seed.script(c, rounds))
		left := make([][]api.Event, c.Domains)
		for i, d := range domains {
			left[i] = d.Events
		}
		begin := 0
		for range rounds {
			for slot, s := range c.Slots {
				left[s.Domain] = checkSlot(t, left[s.Domain], slot, begin, begin+s.Length-c.Pad)
				begin += s.Length
			}
		}
		for i, l := range left {
			if len(l) != 0 {
				t.Errorf("domain %d of %v: behind all slots %v", i, c, l)
			}
		}
	}
}

// checkSlot of the first events of a domain, and answer those behind the slot.
func checkSlot(t *testing.T, l []api.Event, slot, begin, end int) []api.Event {
	t.Helper()
	last := slices.Index(l, api.Event{At: end, Kind: api.EventClose})
	if last < 0 || l[0] != (api.Event{At: begin, Kind: api.EventOpen, A: slot}) {
		t.Fatalf("slot %d from %d to %d: %v", slot, begin, end, l)
	}
	now := begin
	for _, e := range l[:last] {
		if e.At > end || e.Kind == api.EventClose {
			t.Errorf("slot %d from %d to %d: %v", slot, begin, end, e)
		}
		if e.Kind == api.EventRelease || e.Kind == api.EventMiss {
			continue // they may be told behind their time
		}
		if e.At < now {
			t.Errorf("slot %d from %d to %d: %v, but it was %d", slot, begin, end, e, now)
		}
		now = e.At
	}
	return l[last+1:]
}

// No flush takes more than Pad; and some take as much, where it is as little as may be.
func TestNoFlushTakesMoreThanPad(t *testing.T) {
	full := 0
	for seed := range draw(draws) {
		c := seed.config()
		_, longest := run(t, c, seed.script(c, 8))
		if longest > c.Pad {
			t.Errorf("%v: a flush takes %d", c, longest)
		}
		if longest == c.Pad {
			full++
		}
	}
	if full < draws/10 {
		t.Errorf("only %d of them are full", full)
	}
}

// The machine is as all apart; each domain is as it would be alone, with those that reach it.
func TestMachineIsAsApart(t *testing.T) {
	for seed := range draw(draws) {
		c := seed.config()
		s := seed.script(c, seed.n(0, api.MaxRounds))
		domains, _ := run(t, c, s)
		others, e := apart.Run(c, s)
		if e != api.OK || !same(each(bare, values(others)), each(bare, values(domains))) {
			t.Errorf("%v, %v: apart %v, %d, not %v", c, s, others, e, domains)
		}
		for i, d := range domains {
			alone, e := apart.Alone(c, s, i)
			if e != api.OK || !same(each(bare, values(alone)), each(bare, values(d))) {
				t.Errorf("%v, %v: domain %d alone %v, %d, not %v", c, s, i, alone, e, d)
			}
		}
	}
}

// Whatever the others do, it can't tell; but by a channel it can.
func TestCannotTell(t *testing.T) {
	told := 0
	for seed := range draw(draws) {
		c := seed.config()
		s, other := seed.script(c, 6), seed.script(c, 6)
		before, _ := run(t, c, s)
		reach, _ := config.Reach(c)
		for i, d := range before {
			after, _ := run(t, c, mixed(c, s, other, func(domain int) bool { return reach[domain][i] }))
			if !reflect.DeepEqual(after[i], d) {
				t.Errorf("%v, %v: domain %d is %v, not %v", c, s, i, after[i], d)
			}
			after, _ = run(t, c, mixed(c, s, other, func(domain int) bool { return domain == i }))
			if !reflect.DeepEqual(after[i], d) {
				told++
			}
		}
	}
	if told < draws/10 {
		t.Errorf("only %d can tell by a channel", told)
	}
}

// mixed: some domains do as in one script, the others as in another one; their lines come so too.
func mixed(c api.Config, one, other api.Script, keeps func(domain int) bool) api.Script {
	s := api.Script{Rounds: one.Rounds}
	for i := range c.Domains {
		if keeps(i) {
			s.Actions = append(s.Actions, one.Actions[i])
		} else {
			s.Actions = append(s.Actions, other.Actions[i])
		}
	}
	of := func(l []api.Arrival, kept bool) []api.Arrival {
		return slices.DeleteFunc(slices.Clone(l), func(a api.Arrival) bool { return keeps(c.Owners[a.Line]) != kept })
	}
	// No more than may be: what is kept is there in any case.
	all := append(of(one.Arrivals, true), of(other.Arrivals, false)...)
	s.Arrivals = all[:min(len(all), api.MaxArrivals)]
	return s
}

package promises

import "clockwall/api"

// draw numbers, the same for the same seed.
type draw uint32

// n draws a number from least to most.
func (d *draw) n(least, most int) int {
	*d = *d*1664525 + 1013904223
	return least + int(*d>>8)%(most-least+1)
}

// config draws a machine; its Pad is as little as may be, and each domain has a task, so that it acts.
func (d *draw) config() api.Config {
	c := api.Config{Sets: d.n(1, api.MaxSets), Ways: d.n(1, api.MaxWays), Domains: d.n(1, api.MaxDomains), Quantum: d.n(1, api.MaxQuantum)}
	c.Pad = api.CostFlush + c.Sets*c.Ways*api.CostWrite
	for range d.n(1, api.MaxSlots) {
		c.Slots = append(c.Slots, api.Slot{Domain: d.domain(c), Length: d.n(api.MinLength, 400)})
	}
	for range d.n(0, api.MaxOwners) {
		c.Owners = append(c.Owners, d.domain(c))
	}
	for range d.n(0, api.MaxChannels) {
		c.Channels = d.oneMore(c)
	}
	for i := range api.MaxTasks {
		period := d.n(1, 600)
		c.Tasks = append(c.Tasks, api.Task{Domain: i % c.Domains, Period: period, Budget: d.n(1, period), Deadline: d.n(1, period)})
	}
	return c
}

func (d *draw) domain(c api.Config) int { return d.n(0, c.Domains-1) }

// oneMore channel than there are, if the one that is drawn may be.
func (d *draw) oneMore(c api.Config) []api.Channel {
	drawn := api.Channel{From: d.domain(c), To: d.domain(c), Size: d.n(1, api.MaxRing)}
	if drawn.From == drawn.To {
		return c.Channels
	}
	for _, l := range c.Channels {
		if l.From == drawn.From && l.To == drawn.To {
			return c.Channels
		}
	}
	return append(c.Channels, drawn)
}

// script draws what is done on a machine; most of it names what is there.
func (d *draw) script(c api.Config, rounds int) api.Script {
	s := api.Script{Rounds: rounds}
	for domain := range c.Domains {
		var l []api.Action
		for range d.n(0, api.MaxActions) {
			l = append(l, d.action(c, domain, len(l)))
		}
		s.Actions = append(s.Actions, l)
	}
	if len(c.Owners) > 0 {
		for range d.n(0, api.MaxArrivals) {
			s.Arrivals = append(s.Arrivals, api.Arrival{At: d.n(0, 3000), Line: d.n(0, len(c.Owners)-1)})
		}
	}
	return s
}

// action of a number: what it sends is that number, so that no value is sent twice by a domain.
func (d *draw) action(c api.Config, domain, number int) api.Action {
	a := api.Action{Kind: d.n(api.ActCompute, api.ActWait)}
	switch a.Kind {
	case api.ActCompute:
		a.N = d.n(1, 50)
	case api.ActRead, api.ActWrite:
		a.N = d.n(1, 20)
	case api.ActSend:
		a.N, a.Value = d.some(func(n int) bool { return n < len(c.Channels) && c.Channels[n].From == domain }), number
	case api.ActReceive:
		a.N = d.some(func(n int) bool { return n < len(c.Channels) && c.Channels[n].To == domain })
	case api.ActTake:
		a.N = d.some(func(n int) bool { return n < len(c.Owners) && c.Owners[n] == domain })
	}
	return a
}

// some number of a channel or a line, that fits most often, if one does.
func (d *draw) some(fits func(n int) bool) int {
	n := d.n(0, 4)
	for range 10 {
		if fits(n) {
			break
		}
		n = d.n(0, 4)
	}
	return n
}

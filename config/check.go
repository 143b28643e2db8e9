package config

import (
	"slices"

	"clockwall/api"
	"clockwall/limit"
)

func checkNumbers(c api.Config) api.Errno {
	if !limit.Within(c.Sets, 1, api.MaxSets) || !limit.Within(c.Ways, 1, api.MaxWays) ||
		!limit.Within(c.Domains, 1, api.MaxDomains) || !limit.Within(c.Quantum, 1, api.MaxQuantum) {
		return api.ErrRange
	}
	return api.OK
}

func checkPad(c api.Config) api.Errno {
	flush := api.CostFlush + api.CostWrite*c.Sets*c.Ways
	if !limit.Within(c.Pad, flush, api.MinLength-1) {
		return api.ErrState
	}
	return api.OK
}

func checkCounts(c api.Config) api.Errno {
	if !limit.Within(len(c.Slots), 1, api.MaxSlots) || len(c.Owners) > api.MaxOwners ||
		len(c.Channels) > api.MaxChannels || len(c.Tasks) > api.MaxTasks {
		return api.ErrMany
	}
	return api.OK
}

func checkSlots(c api.Config) api.Errno {
	for _, s := range c.Slots {
		if !isDomain(c, s.Domain) {
			return api.ErrNone
		}
		if !limit.Within(s.Length, api.MinLength, api.MaxLength) {
			return api.ErrRange
		}
	}
	return api.OK
}

func checkOwners(c api.Config) api.Errno {
	if slices.ContainsFunc(c.Owners, func(owner int) bool { return !isDomain(c, owner) }) {
		return api.ErrNone
	}
	return api.OK
}

func checkChannels(c api.Config) api.Errno {
	for i, l := range c.Channels {
		if !isDomain(c, l.From) || !isDomain(c, l.To) {
			return api.ErrNone
		}
		if l.From == l.To {
			return api.ErrForm
		}
		if !limit.Within(l.Size, 1, api.MaxRing) {
			return api.ErrRange
		}
		same := func(other api.Channel) bool { return other.From == l.From && other.To == l.To }
		if slices.ContainsFunc(c.Channels[:i], same) {
			return api.ErrTwice
		}
	}
	return api.OK
}

func checkTasks(c api.Config) api.Errno {
	for _, t := range c.Tasks {
		if !isDomain(c, t.Domain) {
			return api.ErrNone
		}
		if !limit.Within(t.Period, 1, api.MaxPeriod) || !limit.Within(t.Budget, 1, t.Period) ||
			!limit.Within(t.Deadline, 1, t.Period) {
			return api.ErrRange
		}
	}
	return api.OK
}

func isDomain(c api.Config, domain int) bool { return limit.Within(domain, 0, c.Domains-1) }

// Package cache: a cache: see doc/01-cache.md.
package cache

import (
	"slices"

	"clockwall/api"
	"clockwall/clone"
	"clockwall/limit"
)

// New cache.
func New(sets, ways int) (api.Cache, api.Errno) {
	if !limit.Within(sets, 1, api.MaxSets) || !limit.Within(ways, 1, api.MaxWays) {
		return api.Cache{}, api.ErrRange
	}
	return empty(sets, ways), api.OK
}

// Check a cache.
func Check(c api.Cache) api.Errno {
	if e := checkShape(c.Sets); e != api.OK {
		return e
	}
	for number, ways := range c.Sets {
		for i := range ways {
			if e := checkWay(ways, i, number, len(c.Sets)); e != api.OK {
				return e
			}
		}
	}
	return api.OK
}

// Access a line.
func Access(c api.Cache, line int, write bool) (api.Cache, int, api.Errno) {
	if e := Check(c); e != api.OK {
		return api.Cache{}, 0, e
	}
	if !limit.Within(line, 1, api.MaxLine) {
		return api.Cache{}, 0, api.ErrRange
	}
	after := clone.Cache(c)
	cost := use(after.Sets[line%len(after.Sets)], line, write)
	return after, cost, api.OK
}

// Flush a cache.
func Flush(c api.Cache) (api.Cache, int, api.Errno) {
	if e := Check(c); e != api.OK {
		return api.Cache{}, 0, e
	}
	cost := api.CostFlush
	for _, ways := range c.Sets {
		for _, w := range ways {
			cost += writeBack(w)
		}
	}
	return empty(len(c.Sets), len(c.Sets[0])), cost, api.OK
}

// empty makes each set on its own: no two lists of an answer may share memory.
func empty(sets, ways int) api.Cache {
	c := api.Cache{Sets: make([][]api.Way, sets)}
	for i := range c.Sets {
		c.Sets[i] = make([]api.Way, ways)
	}
	return c
}

func checkShape(sets [][]api.Way) api.Errno {
	if !limit.Within(len(sets), 1, api.MaxSets) {
		return api.ErrRange
	}
	if slices.ContainsFunc(sets, func(ways []api.Way) bool { return !limit.Within(len(ways), 1, api.MaxWays) }) {
		return api.ErrRange
	}
	if slices.ContainsFunc(sets, func(ways []api.Way) bool { return len(ways) != len(sets[0]) }) {
		return api.ErrForm
	}
	return api.OK
}

func checkWay(ways []api.Way, i, number, sets int) api.Errno {
	line, ahead := ways[i].Line, ways[:i]
	if !limit.Within(line, 0, api.MaxLine) {
		return api.ErrRange
	}
	if line == 0 {
		if ways[i].Dirty {
			return api.ErrForm
		}
		return api.OK
	}
	if line%sets != number {
		return api.ErrState
	}
	if find(ahead, line) >= 0 {
		return api.ErrTwice
	}
	if find(ahead, 0) >= 0 {
		return api.ErrState
	}
	return api.OK
}

func find(ways []api.Way, line int) int {
	return slices.IndexFunc(ways, func(w api.Way) bool { return w.Line == line })
}

// use changes ways in place and answers the cost: they must be the caller's own.
func use(ways []api.Way, line int, write bool) int {
	at, cost := find(ways, line), api.CostHit
	if at < 0 {
		at = len(ways) - 1
		cost = api.CostMiss + writeBack(ways[at])
		ways[at] = api.Way{Line: line}
	}
	used := ways[at]
	used.Dirty = used.Dirty || write
	copy(ways[1:], ways[:at])
	ways[0] = used
	return cost
}

func writeBack(w api.Way) int {
	if w.Dirty {
		return api.CostWrite
	}
	return 0
}

// Package clone: copies of what is made of lists, for all layers: no list of a copy shares memory with another one.
package clone

import (
	"slices"

	"clockwall/api"
)

// Cache copies a cache.
func Cache(c api.Cache) api.Cache {
	after := api.Cache{Sets: make([][]api.Way, len(c.Sets))}
	for i, ways := range c.Sets {
		after.Sets[i] = slices.Clone(ways)
	}
	return after
}

// Domain copies a domain.
func Domain(d api.Domain) api.Domain {
	after := api.Domain{
		Jobs:     slices.Clone(d.Jobs),
		Released: slices.Clone(d.Released),
		Next:     d.Next,
		In:       make([]api.Ring, len(d.In)),
		Taken:    slices.Clone(d.Taken),
		Out:      make([][]int, len(d.Out)),
		Events:   slices.Clone(d.Events),
	}
	for i, r := range d.In {
		after.In[i] = api.Ring{Values: slices.Clone(r.Values), Lost: r.Lost}
	}
	for i, values := range d.Out {
		after.Out[i] = slices.Clone(values)
	}
	return after
}

// Package config: configs: see doc/02-config.md.
package config

import "clockwall/api"

// Check a config.
func Check(c api.Config) api.Errno {
	steps := []func(api.Config) api.Errno{checkNumbers, checkPad, checkCounts, checkSlots, checkOwners, checkChannels, checkTasks}
	for _, step := range steps {
		if e := step(c); e != api.OK {
			return e
		}
	}
	return api.OK
}

// Encode a config.
func Encode(c api.Config) (string, api.Errno) {
	if e := Check(c); e != api.OK {
		return "", e
	}
	return image(c), api.OK
}

// Decode a config.
func Decode(s string) (api.Config, int, api.Errno) {
	if len(s) > api.MaxImage {
		return api.Config{}, 0, api.ErrMany
	}
	c, at, e := parse(s)
	if e != api.OK {
		return api.Config{}, at, e
	}
	if e := Check(c); e != api.OK {
		return api.Config{}, 0, e
	}
	return c, 0, api.OK
}

// Reach: does one domain reach another one?
func Reach(c api.Config) ([][]bool, api.Errno) {
	if e := Check(c); e != api.OK {
		return nil, e
	}
	reach := make([][]bool, c.Domains)
	for i := range reach {
		reach[i] = make([]bool, c.Domains)
		reach[i][i] = true
	}
	// A shortest way enters no domain twice, so that many rounds find all.
	for range c.Domains {
		for _, l := range c.Channels {
			follow(reach[l.From], reach[l.To])
		}
	}
	return reach, api.OK
}

// follow: where a channel leads to is reached with all that is reached from there.
func follow(from, to []bool) {
	for i, reached := range to {
		from[i] = from[i] || reached
	}
}

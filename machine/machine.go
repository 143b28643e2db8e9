// Package machine: a run under way, for both machines, that of one cache and that of all apart: they differ in the cache that a window is given, and in nothing else.
package machine

import (
	"iter"

	"clockwall/api"
	"clockwall/ready"
	"clockwall/turn"
	"clockwall/window"
)

// Turn of a slot: when it begins, and when its window ends, so that Pad is left for switching.
type Turn struct{ Slot, From, To int }

// Machine: what a run has come to. Its config and its script were checked, so that no layer refuses what it is asked.
type Machine struct {
	config  api.Config
	script  api.Script
	domains []api.Domain
	last    []int // when the last slot of each domain began
}

// New machine, ahead of its first turn.
func New(c api.Config, s api.Script) *Machine {
	m := &Machine{config: c, script: s, domains: make([]api.Domain, c.Domains), last: make([]int, c.Domains)}
	for i := range m.domains {
		m.domains[i], _ = ready.New(c, i)
	}
	return m
}

// Turns: all slots of all rounds, one behind the other.
func (m *Machine) Turns() iter.Seq[Turn] {
	return func(yield func(Turn) bool) {
		for round := range m.script.Rounds {
			for slot, s := range m.config.Slots {
				from, _ := turn.Start(m.config, round, slot)
				if !yield(Turn{slot, from, from + s.Length - m.config.Pad}) {
					return
				}
			}
		}
	}
}

// Window of a turn, with a cache: what it leaves of that is answered.
func (m *Machine) Window(t Turn, k api.Cache) api.Cache {
	domain := m.config.Slots[t.Slot].Domain
	d, _ := turn.Open(m.config, m.script.Arrivals, t.Slot, m.domains[domain], m.last[domain], t.From)
	d, k, _ = window.Run(m.config, domain, d, k, m.script.Actions[domain], t.From, t.To)
	d.Events = append(d.Events, api.Event{At: t.To, Kind: api.EventClose})
	m.domains[domain], m.last[domain] = d, t.From
	return k
}

// Close a turn: what was sent in it comes to those it was sent to.
func (m *Machine) Close(t Turn) {
	m.domains, _ = turn.Close(m.config, m.domains, t.Slot)
}

// Domains as they are. They are the machine's own: who hands them out asks nothing more of it.
func (m *Machine) Domains() []api.Domain { return m.domains }

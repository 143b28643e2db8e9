package window

import (
	"slices"

	"clockwall/api"
	"clockwall/mail"
	"clockwall/ready"
)

// keeper of a domain: has it in hand, with its number and the config it lives by. Both were checked, so that no layer refuses what it is asked.
type keeper struct {
	api.Domain
	config api.Config
	number int
}

// shown is what the jobs hang on: a send may bring Out above what Check of a domain allows, which must not stop the window; and what was told need not be copied each time.
func (k *keeper) shown() api.Domain {
	d := k.Domain
	d.Out = make([][]int, len(k.Out))
	d.Events = nil
	return d
}

func (k *keeper) release(now int) {
	d, _ := ready.Release(k.config, k.number, k.shown(), now)
	k.Jobs, k.Released = d.Jobs, d.Released
	k.Events = append(k.Events, d.Events...)
}

func (k *keeper) pick() int {
	job, _ := ready.Pick(k.config, k.number, k.shown())
	return job
}

// due tells when the next job comes, or last, if that is sooner, or none comes.
func (k *keeper) due(last int) int {
	at, _ := ready.Due(k.config, k.number, k.shown())
	if at < 0 {
		return last
	}
	return min(at, last)
}

func (k *keeper) budget(j api.Job) int { return k.config.Tasks[j.Task].Budget }

func (k *keeper) drop(job int) { k.Jobs = slices.Delete(k.Jobs, job, job+1) }

// may tells whether what an action names is there, and the domain's own.
func (k *keeper) may(a api.Action) bool {
	switch a.Kind {
	case api.ActSend:
		return a.N < len(k.config.Channels) && k.config.Channels[a.N].From == k.number
	case api.ActReceive:
		return a.N < len(k.config.Channels) && k.config.Channels[a.N].To == k.number
	case api.ActTake:
		return a.N < len(k.config.Owners) && k.config.Owners[a.N] == k.number
	}
	return true
}

func (k *keeper) send(channel, value int) { k.Out[channel] = append(k.Out[channel], value) }

func (k *keeper) receive(channel int) int {
	r, value, _ := mail.Receive(k.In[channel], k.config.Channels[channel].Size)
	k.In[channel] = r
	return value
}

func (k *keeper) take(line int) int {
	came := k.Taken[line]
	k.Taken[line] = 0
	return came
}

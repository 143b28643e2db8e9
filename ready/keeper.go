package ready

import (
	"cmp"
	"iter"
	"slices"

	"clockwall/api"
)

// maxJobs is how many jobs of a domain may wait.
const maxJobs = 20

// keeper of a domain: has it in hand, with its number and the config it lives by.
type keeper struct {
	api.Domain
	config api.Config
	number int
}

// tasks of the domain, by number: the others are none of its own.
func (k *keeper) tasks() iter.Seq2[int, api.Task] {
	return func(yield func(int, api.Task) bool) {
		for i, t := range k.config.Tasks {
			if t.Domain == k.number && !yield(i, t) {
				return
			}
		}
	}
}

// own finds a task of the domain by its number.
func (k *keeper) own(number int) (api.Task, bool) {
	for i, t := range k.tasks() {
		if i == number {
			return t, true
		}
	}
	return api.Task{}, false
}

// comes tells when the next job of a task comes.
func (k *keeper) comes(task int) int {
	return k.config.Tasks[task].Period * k.Released[task]
}

func (k *keeper) deadline(j api.Job) int {
	return j.Released + k.config.Tasks[j.Task].Deadline
}

// release the next job of a task; without room it counts, but nothing is told of it.
func (k *keeper) release(task int) {
	j := api.Job{Task: task, Number: k.Released[task], Released: k.comes(task)}
	k.Released[task]++
	if len(k.Jobs) == maxJobs {
		return
	}
	k.Jobs = append(k.Jobs, j)
	k.tell(j.Released, api.EventRelease, j)
}

// miss marks the jobs that are not done at their deadline.
func (k *keeper) miss(now int) {
	for i, j := range k.Jobs {
		if at := k.deadline(j); !j.Missed && at <= now {
			k.Jobs[i].Missed = true
			k.tell(at, api.EventMiss, j)
		}
	}
}

func (k *keeper) tell(at, kind int, j api.Job) {
	k.Events = append(k.Events, api.Event{At: at, Kind: kind, A: j.Task, B: j.Number})
}

// first finds the job that no other one is ahead of.
func (k *keeper) first() int {
	return slices.IndexFunc(k.Jobs, func(j api.Job) bool {
		return !slices.ContainsFunc(k.Jobs, func(other api.Job) bool { return k.ahead(other, j) })
	})
}

func (k *keeper) ahead(a, b api.Job) bool {
	return cmp.Or(
		cmp.Compare(k.deadline(a), k.deadline(b)),
		cmp.Compare(a.Task, b.Task),
		cmp.Compare(a.Number, b.Number),
	) < 0
}

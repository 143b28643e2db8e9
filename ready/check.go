package ready

import (
	"slices"

	"clockwall/api"
	"clockwall/limit"
	"clockwall/mail"
)

func (k *keeper) checkShape() api.Errno {
	channels := len(k.config.Channels)
	if len(k.Released) != len(k.config.Tasks) || len(k.In) != channels || len(k.Out) != channels || len(k.Taken) != len(k.config.Owners) {
		return api.ErrForm
	}
	return api.OK
}

func (k *keeper) checkNumbers() api.Errno {
	if !limit.All(k.Released, 0, api.MaxAt) || !limit.Within(k.Next, 0, api.MaxAt) || !limit.All(k.Taken, 0, api.MaxTaken) {
		return api.ErrRange
	}
	return api.OK
}

func (k *keeper) checkJobs() api.Errno {
	if len(k.Jobs) > maxJobs {
		return api.ErrMany
	}
	for _, j := range k.Jobs {
		if e := k.checkJob(j); e != api.OK {
			return e
		}
	}
	return api.OK
}

func (k *keeper) checkJob(j api.Job) api.Errno {
	t, ok := k.own(j.Task)
	if !ok {
		return api.ErrNone
	}
	if !limit.Within(j.Number, 0, api.MaxAt) || !limit.Within(j.Released, 0, api.MaxAt) || !limit.Within(j.Used, 0, t.Budget-1) {
		return api.ErrRange
	}
	return api.OK
}

func (k *keeper) checkIn() api.Errno {
	for i, r := range k.In {
		if e := mail.Check(r, k.config.Channels[i].Size); e != api.OK {
			return e
		}
	}
	return api.OK
}

// checkOut looks at how many there are in all of Out ahead of any value: that error is named first.
func (k *keeper) checkOut() api.Errno {
	if slices.ContainsFunc(k.Out, func(values []int) bool { return len(values) > api.MaxActions }) {
		return api.ErrMany
	}
	if slices.ContainsFunc(k.Out, func(values []int) bool { return !limit.All(values, 0, api.MaxValue) }) {
		return api.ErrRange
	}
	return api.OK
}

package window

import (
	"clockwall/api"
	"clockwall/limit"
)

func checkAction(a api.Action) api.Errno {
	if !limit.Within(a.Kind, api.ActCompute, api.ActWait) {
		return api.ErrKind
	}
	if !inRange(a) {
		return api.ErrRange
	}
	if !onlyNamed(a) {
		return api.ErrForm
	}
	return api.OK
}

// inRange asks also of kinds that name no N that it is not below 0: that is told ahead of its not being 0.
func inRange(a api.Action) bool {
	switch a.Kind {
	case api.ActCompute:
		return limit.Within(a.N, 1, api.MaxCompute)
	case api.ActRead, api.ActWrite:
		return limit.Within(a.N, 1, api.MaxLine)
	case api.ActSend:
		return a.N >= 0 && limit.Within(a.Value, 0, api.MaxValue)
	}
	return a.N >= 0
}

// onlyNamed tells whether what the kind does not name is 0.
func onlyNamed(a api.Action) bool {
	switch a.Kind {
	case api.ActSend:
		return true
	case api.ActClock, api.ActWait:
		return a.N == 0 && a.Value == 0
	}
	return a.Value == 0
}

// worst is Worst of an action that is right.
func worst(a api.Action) int {
	switch a.Kind {
	case api.ActCompute:
		return a.N
	case api.ActRead, api.ActWrite:
		return api.CostMiss + api.CostWrite
	}
	return api.CostCall
}

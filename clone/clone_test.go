package clone

import (
	"reflect"
	"testing"

	"clockwall/api"
)

// P2: the copy is the same; that it shares no memory is tested in promises.
func TestSame(t *testing.T) {
	for _, c := range []api.Cache{
		{Sets: [][]api.Way{}},
		{Sets: [][]api.Way{{{Line: 2}, {Line: 4, Dirty: true}}, {{Line: 1}, {}}}},
	} {
		if got := Cache(c); !reflect.DeepEqual(got, c) {
			t.Errorf("%v, not %v", got, c)
		}
	}
	d := api.Domain{
		Jobs:     []api.Job{{Task: 1, Number: 2, Released: 3, Used: 4, Ran: true}, {Missed: true}},
		Released: []int{5, 6},
		Next:     7,
		In:       []api.Ring{{Values: []int{8, 9}, Lost: 10}, {}},
		Taken:    []int{11},
		Out:      [][]int{{12}, nil, {13, 14}},
		Events:   []api.Event{{At: 15, Kind: 16, A: 17, B: 18}},
	}
	if got := Domain(d); !reflect.DeepEqual(got, d) {
		t.Errorf("%v, not %v", got, d)
	}
}

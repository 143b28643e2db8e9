package machine

import (
	"slices"
	"testing"

	"clockwall/api"
)

func shifts() api.Config {
	return api.Config{
		Sets: 1, Ways: 1, Domains: 2, Pad: 10, Quantum: 1,
		Slots: []api.Slot{{Domain: 1, Length: 100}, {Domain: 0, Length: 250}},
	}
}

// G2, F4
func TestTurns(t *testing.T) {
	want := []Turn{{0, 0, 90}, {1, 100, 340}, {0, 350, 440}, {1, 450, 690}, {0, 700, 790}, {1, 800, 1040}}
	for rounds := range 4 {
		m := New(shifts(), api.Script{Actions: make([][]api.Action, 2), Rounds: rounds})
		if got := slices.Collect(m.Turns()); !slices.Equal(got, want[:2*rounds]) {
			t.Errorf("%d rounds: %v, not %v", rounds, got, want[:2*rounds])
		}
	}
}

// Who leaves the loop hears of no other turn.
func TestTurnsEnd(t *testing.T) {
	m := New(shifts(), api.Script{Actions: make([][]api.Action, 2), Rounds: 8})
	for end := range 16 {
		n := 0
		for range m.Turns() {
			if n == end {
				break
			}
			n++
		}
		if n != end {
			t.Errorf("%d turns, not %d", n, end)
		}
	}
}

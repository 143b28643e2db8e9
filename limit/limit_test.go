package limit

import (
	"math"
	"testing"
)

func TestWithin(t *testing.T) {
	for _, x := range []struct {
		n, least, most int
		want           bool
	}{
		{0, 1, 3, false}, {1, 1, 3, true}, {2, 1, 3, true}, {3, 1, 3, true}, {4, 1, 3, false},
		{0, 0, 0, true}, {0, 1, 0, false},
		{math.MinInt, 0, math.MaxInt, false}, {math.MaxInt, 0, math.MaxInt, true},
	} {
		if got := Within(x.n, x.least, x.most); got != x.want {
			t.Errorf("Within(%d, %d, %d) = %v", x.n, x.least, x.most, got)
		}
	}
}

func TestAll(t *testing.T) {
	for _, x := range []struct {
		numbers []int
		want    bool
	}{
		{nil, true}, {[]int{}, true}, {[]int{1}, true}, {[]int{1, 2, 3}, true}, {[]int{3, 3}, true},
		{[]int{0}, false}, {[]int{4}, false}, {[]int{0, 2, 2}, false}, {[]int{2, 4, 2}, false}, {[]int{2, 2, math.MinInt}, false},
	} {
		if got := All(x.numbers, 1, 3); got != x.want {
			t.Errorf("All(%v, 1, 3) = %v", x.numbers, got)
		}
	}
}

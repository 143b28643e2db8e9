// Package limit: the questions that every layer asks of the numbers it is handed.
package limit

import "slices"

// Within tells whether n is from least to most, both of them too.
func Within(n, least, most int) bool { return least <= n && n <= most }

// All tells whether each of the numbers is Within least and most.
func All(numbers []int, least, most int) bool {
	return !slices.ContainsFunc(numbers, func(n int) bool { return !Within(n, least, most) })
}

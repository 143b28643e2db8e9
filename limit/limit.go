// Package limit: the question that every layer asks of the numbers it is handed.
package limit

// Within tells whether n is from least to most, both of them too.
func Within(n, least, most int) bool { return least <= n && n <= most }

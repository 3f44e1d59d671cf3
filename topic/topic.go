// Package topic is layer 1: see shared/doc/01-topic.md.
package topic

import (
	"iter"
	"strings"

	"bellman/api"
)

const (
	separator = "/"
	anyOne    = "+"
	anyRest   = "#"
)

// Levels tells the levels of s in their order; there is always at least one.
func Levels(s string) []string {
	levels := make([]string, 0, Depth(s))
	for _, level := range Each(s) {
		levels = append(levels, level)
	}
	return levels
}

// Each tells the levels of s one by one, each with its place. It may be ranged over as often as one likes.
func Each(s string) iter.Seq2[int, string] {
	return func(yield func(int, string) bool) {
		// What is left is a variable of this range alone, so that the next range begins at the first level again.
		left, more := s, true
		for place := 0; more; place++ {
			var level string
			level, left, more = strings.Cut(left, separator)
			if !yield(place, level) {
				return
			}
		}
	}
}

// Topic tells whether s is a topic.
func Topic(s string) bool {
	return rightBytes(s) && !hasMark(s)
}

// Filter tells whether s is a filter.
func Filter(s string) bool {
	if !rightBytes(s) {
		return false
	}
	last := Depth(s) - 1
	for place, level := range Each(s) {
		if !rightLevel(level, place == last) {
			return false
		}
	}
	return true
}

// Wild tells whether the first level of any text, be it a filter or not, is + or #.
func Wild(filter string) bool {
	first, _, _ := strings.Cut(filter, separator)
	return first == anyOne || first == anyRest
}

// Depth tells how many levels s has.
func Depth(s string) int {
	return strings.Count(s, separator) + 1
}

// rightBytes tells what topics and filters both ask for: their length, and no byte 0.
func rightBytes(s string) bool {
	return 1 <= len(s) && len(s) <= api.MaxTopic && strings.IndexByte(s, 0) < 0
}

// rightLevel tells whether a filter may have this level, last or not.
func rightLevel(level string, last bool) bool {
	switch level {
	case anyOne:
		return true
	case anyRest:
		return last
	}
	return !hasMark(level)
}

func hasMark(s string) bool {
	return strings.Contains(s, anyOne) || strings.Contains(s, anyRest)
}

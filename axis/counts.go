package axis

import (
	"coinage/api"
)

// maxHours is the greatest length of a list of hours.
const maxHours = 64

// counts is how often each hour occurs in a list. Only Turned depends on more of
// a list than that.
type counts [api.Hours]int

// count returns the counts of l: ErrFull if it is too long, ErrArg if an element
// is not an hour.
func count(l []int) (counts, Errno) {
	if len(l) > maxHours {
		return counts{}, api.ErrFull
	}
	var c counts
	for _, hour := range l {
		if !isHour(hour) {
			return counts{}, api.ErrArg
		}
		c[hour]++
	}
	return c, api.OK
}

// countSome returns the counts of l, as count does, and ErrNone if it is empty.
func countSome(l []int) (counts, Errno) {
	if len(l) == 0 {
		return counts{}, api.ErrNone
	}
	return count(l)
}

// inside returns the number of elements within the n hours from hour on.
func (c counts) inside(hour, n int) int {
	sum := 0
	for i := range n {
		sum += c[turn(hour, i)]
	}
	return sum
}

// densest returns the first hour from which the next n contain the most
// elements, and the number of these.
func (c counts) densest(n int) (int, int) {
	best, most := 0, c.inside(0, n)
	for hour := 1; hour < api.Hours; hour++ {
		if inside := c.inside(hour, n); inside > most {
			best, most = hour, inside
		}
	}
	return best, most
}

// arc returns the first of the shortest arcs that contain all elements.
func (c counts) arc() (int, int) {
	all := c.inside(0, api.Hours)
	for n := 1; n < api.Hours; n++ {
		if hour, inside := c.densest(n); inside == all {
			return hour, n
		}
	}
	return 0, api.Hours
}

// distances returns the sum of the distances of all elements from an hour.
func (c counts) distances(hour int) int {
	sum := 0
	for h, times := range c {
		sum += times * Distance(hour, h)
	}
	return sum
}

// median returns the first hour with the least sum of distances, and this sum.
func (c counts) median() (int, int) {
	best, least := 0, c.distances(0)
	for hour := 1; hour < api.Hours; hour++ {
		if sum := c.distances(hour); sum < least {
			best, least = hour, sum
		}
	}
	return best, least
}

// farthest returns the greatest distance of an element from an hour.
func (c counts) farthest(hour int) int {
	most := 0
	for h, times := range c {
		if times > 0 {
			most = max(most, Distance(hour, h))
		}
	}
	return most
}

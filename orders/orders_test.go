package orders_test

import (
	"slices"
	"testing"

	"aileron/orders"
)

// merged are all orders of two tasks with so many steps each, as the runs met them.
func merged(first, second int) (all []string, runs int) {
	runs = orders.Every(func(choose func(n int) int) {
		left, order := [2]int{first, second}, ""
		for left[0]+left[1] > 0 {
			var ready []int
			for task, n := range left {
				if n > 0 {
					ready = append(ready, task)
				}
			}
			task := ready[choose(len(ready))]
			left[task]--
			order += "ab"[task : task+1]
		}
		all = append(all, order)
	})
	return all, runs
}

// Each order comes once, and none is missing.
func TestEveryOrderComesOnce(t *testing.T) {
	all, runs := merged(2, 2)
	slices.Sort(all)
	if want := []string{"aabb", "abab", "abba", "baab", "baba", "bbaa"}; !slices.Equal(all, want) || runs != 6 {
		t.Errorf("%v, %d runs", all, runs)
	}
	all, runs = merged(3, 7)
	slices.Sort(all)
	if len(slices.Compact(all)) != 120 || runs != 120 {
		t.Errorf("%d orders, %d runs", len(all), runs)
	}
}

// What there is to choose may hang on what was chosen; where there is nothing, one run is all.
func TestWhatThereIsToChoose(t *testing.T) {
	var all []int
	runs := orders.Every(func(choose func(n int) int) {
		n := choose(3)
		all = append(all, 10*n+choose(n))
	})
	if want := []int{0, 10, 20, 21}; !slices.Equal(all, want) || runs != 4 {
		t.Errorf("%v, %d runs", all, runs)
	}
	if runs := orders.Every(func(func(n int) int) {}); runs != 1 {
		t.Errorf("%d runs without a choice", runs)
	}
}

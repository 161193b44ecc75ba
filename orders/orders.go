// Package orders goes through all orders in which steps may come. No layer stands on it: tests of layers whose calls are done step by step do.
package orders

// choice is one thing that a run chose: which, out of how many.
type choice struct {
	took int
	of   int
}

// Every lets run begin again and again, each time with other answers of choose, till there are no others, and is how often it ran. Each answer is from 0 up to n less 1; of an n below 2 it is 0.
func Every(run func(choose func(n int) int)) int {
	var taken []choice
	for runs := 1; ; runs++ {
		asked := 0
		run(func(n int) int {
			if asked == len(taken) {
				taken = append(taken, choice{of: n})
			}
			asked++
			return taken[asked-1].took
		})
		for len(taken) > 0 && taken[len(taken)-1].took+1 >= taken[len(taken)-1].of {
			taken = taken[:len(taken)-1]
		}
		if len(taken) == 0 {
			return runs
		}
		taken[len(taken)-1].took++
	}
}

package save

import (
	"cobweb/api"
	"cobweb/chain"
	"cobweb/grid"
	"cobweb/input"
	"cobweb/rung"
)

// Job gives a job as numbers, from which JobOf reads it.
func Job(j input.Job) []int {
	l := []int{j.Op, j.Fill, j.Rung, j.Cap}
	l = addRow(l, j.A, addRing)
	return addRow(l, j.B, addRing)
}

// State gives a rung's state as numbers, from which StateOf reads it.
func State(s rung.State) []int {
	l := []int{s.K, s.Room, s.Phase, s.I, s.J, s.T, numberOfTruth(s.Dirty)}
	l = addRow(l, s.Hot, addPixel)
	l = addRow(l, s.Found, addPixel)
	return addRow(l, s.Chains, addChain)
}

// addRow puts behind l how many things there are, and then each of them, as add puts it there.
func addRow[T any](l []int, row []T, add func(l []int, v T) []int) []int {
	l = append(l, len(row))
	for _, v := range row {
		l = add(l, v)
	}
	return l
}

func addRing(l []int, r api.Ring) []int { return addRow(l, r, addPoint) }

func addPoint(l []int, p api.Point) []int { return append(l, p.X, p.Y) }

func addPixel(l []int, q grid.Pixel) []int { return append(l, q.X, q.Y) }

func addChain(l []int, c chain.Chain) []int { return addRow(addRow(l, c.V, addPixel), c.D, addNumber) }

func addNumber(l []int, n int) []int { return append(l, n) }

// numberOfTruth tells 1 of true, and 0 of false.
func numberOfTruth(is bool) int {
	if is {
		return 1
	}
	return 0
}

package fringe

import (
	"iter"

	"swath/api"
)

// place is the row and the column of a cell, or how many rows and columns there are.
type place [2]int

// grid is rows of columns of cells.
type grid[T any] struct {
	rows, columns int
	cells         []T
}

// next is the place at the right, or the one below.
func (p place) next(down bool) place {
	if down {
		return place{p[0] + 1, p[1]}
	}
	return place{p[0], p[1] + 1}
}

// made gives a grid that has at each place what cell gives for it.
func made[T any](rows, columns int, cell func(at place) T) grid[T] {
	g := grid[T]{rows, columns, make([]T, 0, rows*columns)}
	for at := range g.places() {
		g.cells = append(g.cells, cell(at))
	}
	return g
}

// each gives a grid with what change makes of each cell.
func each[A, B any](g grid[A], change func(cell A) B) grid[B] {
	return made(g.rows, g.columns, func(at place) B { return change(g.at(at)) })
}

// combined gives a grid with what combine makes of the cells of two grids of one size.
func combined[A, B, C any](a grid[A], b grid[B], combine func(x A, y B) C) grid[C] {
	return made(a.rows, a.columns, func(at place) C { return combine(a.at(at), b.at(at)) })
}

func (g grid[T]) has(p place) bool {
	return within(p[0], 0, g.rows-1) && within(p[1], 0, g.columns-1)
}

func (g grid[T]) at(p place) T {
	return g.cells[p[0]*g.columns+p[1]]
}

// places yields all places, row by row.
func (g grid[T]) places() iter.Seq[place] {
	return func(yield func(place) bool) {
		for row := range g.rows {
			for column := range g.columns {
				if !yield(place{row, column}) {
					return
				}
			}
		}
	}
}

// between yields the cells that the grid has from one corner of a box to the opposite one.
func (g grid[T]) between(first, last place) iter.Seq[T] {
	return func(yield func(T) bool) {
		for row := max(first[0], 0); row <= min(last[0], g.rows-1); row++ {
			for column := max(first[1], 0); column <= min(last[1], g.columns-1); column++ {
				if !yield(g.at(place{row, column})) {
					return
				}
			}
		}
	}
}

// around yields the cells at most half rows and at most half columns away from a place.
func (g grid[T]) around(p place, half int) iter.Seq[T] {
	return g.between(place{p[0] - half, p[1] - half}, place{p[0] + half, p[1] + half})
}

// gridOfImage shares the samples, as gridOfFloats does the numbers: both are read only.
func gridOfImage(im api.RadarImage) grid[complex64] {
	return grid[complex64]{im.Lines, im.Samples, im.Data}
}

func gridOfFloats(h api.FloatMap) grid[float32] {
	return grid[float32]{h.Rows, h.Columns, h.Data}
}

func gridOfField(f api.RadarField) grid[number] {
	g := grid[complex128]{f.Lines, f.Samples, f.Data}
	return each(g, func(z complex128) number { return number(z) })
}

func gridOfMap(m api.PhaseMap) grid[phase] {
	g := grid[int]{m.Rows, m.Columns, m.Phases}
	return each(g, func(n int) phase { return phase(n) })
}

// fieldOf adds 0 to each number, so that no part of it is -0.
func fieldOf(g grid[number]) api.RadarField {
	data := each(g, func(z number) complex128 { return complex128(z) + 0 })
	return api.RadarField{Lines: g.rows, Samples: g.columns, Data: data.cells}
}

func mapOf(g grid[phase]) api.PhaseMap {
	phases := each(g, func(p phase) int { return int(p) })
	return api.PhaseMap{Rows: g.rows, Columns: g.columns, Phases: phases.cells}
}

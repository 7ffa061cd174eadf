package fringe

import (
	"slices"

	"swath/api"
)

// partOfModel is how many units of a model are a part of a turn.
const partOfModel = 1000

// ModelPhases gives the phases of a model with heights, not wrapped.
func ModelPhases(x api.FringeModel, h api.FloatMap) (api.PhaseMap, api.Errno) {
	g, err := modelled(x, h)
	if err != api.OK {
		return api.PhaseMap{}, err
	}
	return mapOf(g), api.OK
}

// Flattened gives the wrapped differences of a map and the phases of a model.
func Flattened(m api.PhaseMap, x api.FringeModel, h api.FloatMap) (api.PhaseMap, api.Errno) {
	if err := checkMaps(m); err != api.OK {
		return api.PhaseMap{}, err
	}
	model, err := modelled(x, h)
	if err := firstError(err, checkSizes(sizeOfMap(m), sizeOfFloats(h))); err != api.OK {
		return api.PhaseMap{}, err
	}
	return mapOf(combined(gridOfMap(m), model, phase.minus)), api.OK
}

func modelled(x api.FringeModel, h api.FloatMap) (grid[phase], api.Errno) {
	if err := firstError(checkModel(x), checkFloats(h)); err != api.OK {
		return grid[phase]{}, err
	}
	heights := gridOfFloats(h)
	g := made(h.Rows, h.Columns, func(at place) phase {
		units := x.Base + at[0]*x.PerRow + at[1]*x.PerColumn + int(heights.at(at))*x.PerHeight
		return phase(divideDown(units+partOfModel/2, partOfModel))
	})
	if slices.ContainsFunc(g.cells, phase.isLarge) {
		return grid[phase]{}, api.ErrLarge
	}
	return g, api.OK
}

func checkModel(x api.FringeModel) api.Errno {
	for _, n := range [...]int{x.Base, x.PerRow, x.PerColumn, x.PerHeight} {
		if !within(n, -api.MaxModel, api.MaxModel) {
			return api.ErrRange
		}
	}
	return api.OK
}

// divideDown rounds a / b down, for b above 0.
func divideDown(a, b int) int {
	quotient := a / b
	if a%b < 0 {
		quotient--
	}
	return quotient
}

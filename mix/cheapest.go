package mix

import (
	"iter"
	"slices"

	"shotline/api"
)

// search is what is asked for as columns: those of the sources, and two that take the oxygen, and the helium, of all sources
// out again. So a plan is a number for each column, such that all together make the amount alone.
type search struct {
	asked
	columns []column
}

// CheapestFill returns a plan that meets a task at least cost, with a proof of this; or beside ErrNone a proof that refuses.
func CheapestFill(t api.MixTask) (api.MixPlan, api.MixProof, api.Errno) {
	x, e := askFor(t)
	if e != api.OK {
		return api.MixPlan{}, api.MixProof{}, e
	}
	s := searchFor(x)
	plan, ok := s.cheapest()
	if !ok {
		return api.MixPlan{}, s.refusal(), api.ErrNone
	}
	return plan, s.greatest(), api.OK
}

func searchFor(x asked) search {
	s := search{asked: x}
	for _, source := range x.Sources {
		one := vector{1, source.Gas.Oxygen, source.Gas.Helium}
		s.columns = append(s.columns, column{one, 0, source.Amount, source.Cents})
	}
	s.columns = append(s.columns,
		column{vector{0, -1, 0}, x.oxygenNeed.Lo, x.oxygenNeed.Hi, 0},
		column{vector{0, 0, -1}, x.heliumNeed.Lo, x.heliumNeed.Hi, 0})
	return s
}

// cheapest returns a plan that meets the task at least cost, if any does: there is one in which all columns but those of a
// basis are at their least or most.
func (s search) cheapest() (api.MixPlan, bool) {
	var best api.MixPlan
	var least ratio
	for b := range bases(s.columns) {
		for plan := range s.plans(b) {
			cost, e := s.costOf(plan)
			if e == api.OK && (best.Den == 0 || ratio{cost, plan.Den}.compare(least) < 0) {
				best, least = plan, ratio{cost, plan.Den}
			}
		}
	}
	if best.Den == 0 {
		return api.MixPlan{}, false
	}
	return inLowestTerms(best), true
}

// greatest returns a proof with the greatest value: there is one with which the columns of a basis yield just their prices.
func (s search) greatest() api.MixProof {
	var best api.MixProof
	var most ratio
	for b := range bases(s.columns) {
		var weights vector
		for i, number := range b.numbers {
			weights = weights.plus(b.vectors[i].times(s.columns[number].cents))
		}
		p := proofOf(weights, b.den)
		value := ratio{s.value(p, p.Den), p.Den}
		if best.Den == 0 || value.compare(most) > 0 {
			best, most = p, value
		}
	}
	return best
}

// refusal returns a proof that refuses: if no plan meets the task, there is one with which two columns of a basis yield 0.
func (s search) refusal() api.MixProof {
	for b := range bases(s.columns) {
		for _, weights := range b.vectors {
			for _, p := range []api.MixProof{proofOf(weights, 1), proofOf(weights.times(-1), 1)} {
				if s.value(p, 0) > 0 {
					return p
				}
			}
		}
	}
	return api.MixProof{}
}

// plans yields the plans of a basis with each other column at its least or most, whether or not they meet the task.
func (s search) plans(b basis) iter.Seq[api.MixPlan] {
	var others []int
	for number := range s.columns {
		if !slices.Contains(b.numbers[:], number) {
			others = append(others, number)
		}
	}
	return func(yield func(api.MixPlan) bool) {
		for set := range 1 << len(others) {
			taken, left := make([]int, len(s.columns)), vector{s.amount}
			for i, number := range others {
				n := s.columns[number].least
				if set>>i&1 == 1 {
					n = s.columns[number].most
				}
				taken[number], left = n*b.den, left.plus(s.columns[number].one.times(-n))
			}
			for i, number := range b.numbers {
				taken[number] = left.dot(b.vectors[i])
			}
			if !yield(api.MixPlan{Parts: taken[:len(s.Sources)], Den: b.den}) {
				return
			}
		}
	}
}

// proofOf returns the proof with weights of the amount, of its oxygen and of its helium.
func proofOf(w vector, den int) api.MixProof {
	return api.MixProof{Whole: w[0], OxygenLow: max(0, w[1]), OxygenHigh: max(0, -w[1]), HeliumLow: max(0, w[2]), HeliumHigh: max(0, -w[2]), Den: den}
}

// inLowestTerms returns a right plan with the least Den that it can have.
func inLowestTerms(p api.MixPlan) api.MixPlan {
	common := p.Den
	for _, part := range p.Parts {
		for part > 0 {
			common, part = part, common%part
		}
	}
	lowest := api.MixPlan{Den: p.Den / common}
	for _, part := range p.Parts {
		lowest.Parts = append(lowest.Parts, part/common)
	}
	return lowest
}

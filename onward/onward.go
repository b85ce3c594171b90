// Package onward leads a rotation from any state to the end, for the layers that plan one from its beginning and from where it stopped.
package onward

import (
	"slices"

	"leakresponse/api"
	"leakresponse/fleet"
	"leakresponse/steps"
)

// planner is a state with the steps that led there.
type planner struct {
	fleet api.Fleet
	state api.Rotation
	done  []api.Step
}

// Steps returns safe steps to the end. It is specified for right states in which all pools serve, and are fit (plan.Fit).
// Each consumer takes at most four steps (give, drop, stop and start), and the issuer at most three.
func Steps(f api.Fleet, s api.Rotation) []api.Step {
	p := &planner{fleet: f, state: s}
	p.step(api.StepMake, 0)
	p.step(api.StepEnable, 0)
	if p.state.Valid == api.BitOld {
		for _, pool := range fleet.Pools(f) {
			p.prepare(fleet.Units(f, pool))
		}
		p.step(api.StepSwap, 0)
	}
	for _, pool := range fleet.Pools(f) {
		p.renewAll(fleet.Units(f, pool))
	}
	p.step(api.StepRevoke, 0)
	return p.done
}

// step takes a step, if it is possible.
func (p *planner) step(kind, unit int) {
	x := api.Step{Kind: kind, Unit: unit}
	next, e := steps.Apply(p.fleet, p.state, x)
	if e == api.OK {
		p.state = next
		p.done = append(p.done, x)
	}
}

// prepare lets one unit of a pool use the new credential before a swap, beside one that uses the old one.
func (p *planner) prepare(units []int) {
	if slices.ContainsFunc(units, func(i int) bool { return p.state.Units[i].Used&api.BitNew != 0 }) {
		return
	}
	if len(units) == 1 { // it can use both
		p.step(api.StepGive, units[0])
		return
	}
	// All units that are up use the old credential alone: one that is down is not needed, otherwise there is a second one.
	second := slices.IndexFunc(units, func(i int) bool { return !p.state.Units[i].Up })
	p.renew(units[max(second, 0)])
}

// renewAll renews the units that do not serve ahead of those that do, so that there always is one that serves.
func (p *planner) renewAll(units []int) {
	serves := func(i int) bool { return fleet.Serves(p.fleet, p.state, i) }
	idle := slices.DeleteFunc(slices.Clone(units), serves)
	busy := slices.DeleteFunc(units, func(i int) bool { return !serves(i) })
	for _, i := range slices.Concat(idle, busy) {
		p.renew(i)
	}
}

// renew lets a unit store and use the new credential alone.
func (p *planner) renew(unit int) {
	p.step(api.StepGive, unit)
	p.step(api.StepDrop, unit)
	if p.state.Units[unit].Used != api.BitNew {
		p.step(api.StepStop, unit)
		p.step(api.StepStart, unit)
	}
}

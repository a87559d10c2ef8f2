// Package live is layer 12: which variables are still needed.
package live

import (
	"slices"

	"lateen/api"
)

// Uses answers the variables that i uses, rising.
func Uses(i api.Instr) []string {
	s := set{}
	s.useAll(i)
	return s.rising()
}

// Ins answers for each block of f, whose shape is right, the variables that are live at its first place, rising.
func Ins(f api.Func) [][]string {
	all := follow(f)
	ins := make([][]string, len(all))
	for at := range all {
		ins[at] = all[at].live.rising()
	}
	return ins
}

// At answers the variables that are live at that place of f, whose shape is right, rising; none, if there is no such place.
func At(f api.Func, block, at int) []string {
	if block < 0 || block >= len(f.Blocks) || at < 0 || at > len(f.Blocks[block].Code) {
		return nil
	}
	s := last(follow(f), block)
	for _, i := range slices.Backward(f.Blocks[block].Code[at:]) {
		s.goBack(i)
	}
	return s.rising()
}

// All answers for each block of f, whose shape is right, what At tells of its places, in order.
func All(f api.Func) [][][]string {
	blocks := follow(f)
	all := make([][][]string, len(blocks))
	for at := range blocks {
		all[at] = eachPlace(f.Blocks[at].Code, last(blocks, at))
	}
	return all
}

// eachPlace answers what is live at each place of a block with that code, at the last place of which s is.
func eachPlace(code []api.Instr, s set) [][]string {
	all := make([][]string, len(code)+1)
	all[len(code)] = s.rising()
	for at, i := range slices.Backward(code) {
		s.goBack(i)
		all[at] = s.rising()
	}
	return all
}

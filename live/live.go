// Package live is layer 12: see shared/doc/12-live.md.
package live

import (
	"lateen/api"
)

// Uses: see the chapter.
func Uses(i api.Instr) []string { return nil }

// Ins: see the chapter.
func Ins(f api.Func) [][]string { return nil }

// All: see the chapter.
func All(f api.Func) [][][]string { return nil }

// At: see the chapter.
func At(f api.Func, block, at int) []string { return nil }

// Package twin: does one small program do what another does, and let out no more? See DOC.md.
package twin

import (
	"twin/api"
	"twin/codec"
	"twin/compare"
	"twin/compute"
	"twin/machine"
)

// Encode tells a program's text (P4).
func Encode(p api.Prog) (string, api.Errno) { return codec.EncodeProgram(p) }

// Decode tells the program of a text (P4).
func Decode(s string) (api.Prog, api.Errno) { return codec.DecodeProgram(s) }

// EncodeHint tells a hint's text (P5).
func EncodeHint(h api.Hint) (string, api.Errno) { return codec.EncodeHint(h) }

// DecodeHint tells the hint of a text (P5).
func DecodeHint(s string) (api.Hint, api.Errno) { return codec.DecodeHint(s) }

// Run runs a program, at most fuel blocks of it (P6, P7).
func Run(s string, in api.Input, fuel int) (api.Outcome, api.Errno) { return machine.Run(s, in, fuel) }

// Term tells what stands in a place at a block's end, as a text (P10).
func Term(s string, block int, place int) (string, api.Errno) { return compute.Term(s, block, place) }

// Marks tells what a block lets out on its way, and where it may trap (P11).
func Marks(s string, block int) ([]string, api.Errno) { return compute.Marks(s, block) }

// Validate tells whether the target does what the source does and lets out no more, as far as the hint shows it (P12).
func Validate(s string, t string, h string) (api.Errno, int) { return compare.Validate(s, t, h) }

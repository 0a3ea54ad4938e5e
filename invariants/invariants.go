// Package invariants: what holds in a small language's programs, whatever they read: see DOC.md.
package invariants

import (
	"invariants/api"
	"invariants/printer"
	"invariants/reader"
	"invariants/runner"
)

// Print writes a program in one form (P3 to P5).
func Print(src string) (string, error) {
	program, err := reader.Program(src)
	if err != nil {
		return "", err
	}
	return printer.Text(program.Block), nil
}

// Run runs a program (P6, P7).
func Run(src string, inputs []int16, fuel int) (api.Trace, error) {
	program, err := reader.Program(src)
	if err != nil {
		return api.Trace{}, err
	}
	if fuel < 0 || fuel > api.MaxFuel {
		return api.Trace{}, api.ErrFuel
	}
	return runner.Run(program, inputs, fuel), nil
}

// Analyze tells what holds at a program's points (P8 to P14).
// It tells what is wrong with the text; of a program it answers nothing yet.
func Analyze(src string, cfg api.Config) (api.Report, error) {
	_, err := reader.Program(src)
	return api.Report{}, err
}

// Package invariants: what holds in a small language's programs, whatever they read: see DOC.md.
package invariants

import (
	"invariants/api"
	"invariants/printer"
	"invariants/reader"
)

// Print writes a program in one form (P3 to P5).
func Print(src string) (string, error) {
	program, err := reader.Program(src)
	if err != nil {
		return "", err
	}
	return printer.Text(program), nil
}

// Run runs a program (P6, P7).
// It tells what is wrong with the text; of a program it answers nothing yet.
func Run(src string, inputs []int16, fuel int) (api.Trace, error) {
	_, err := reader.Program(src)
	return api.Trace{}, err
}

// Analyze tells what holds at a program's points (P8 to P14).
// It tells what is wrong with the text; of a program it answers nothing yet.
func Analyze(src string, cfg api.Config) (api.Report, error) {
	_, err := reader.Program(src)
	return api.Report{}, err
}

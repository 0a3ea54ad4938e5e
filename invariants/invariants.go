// Package invariants: what holds in a small language's programs, whatever they read: see DOC.md.
package invariants

import (
	"invariants/analyzer"
	"invariants/api"
	"invariants/congruence"
	"invariants/interval"
	"invariants/printer"
	"invariants/reader"
	"invariants/runner"
	"invariants/tree"
)

// Print writes a program in one form (P3 to P5).
func Print(src string) (string, error) {
	program, err := reader.Program(src)
	if err != nil {
		return "", err
	}
	return printer.Text(program.Block), nil
}

// Run runs a program (P6, P7).
func Run(src string, inputs []int16, fuel int) (api.Trace, error) {
	program, err := reader.Program(src)
	if err != nil {
		return api.Trace{}, err
	}
	if !isWithin(fuel, api.MaxFuel) {
		return api.Trace{}, api.ErrFuel
	}
	return runner.Run(program, inputs, fuel), nil
}

// Analyze tells what holds at a program's points (P8 to P14).
func Analyze(src string, cfg api.Config) (api.Report, error) {
	program, err := reader.Program(src)
	if err != nil {
		return api.Report{}, err
	}
	if !isConfig(cfg) {
		return api.Report{}, api.ErrConfig
	}
	if cfg.Domain == api.Congruences {
		return analyzer.Report(program, cfg, congruence.Domain{}), nil
	}
	return analyzer.Report(program, cfg, interval.New(thresholds(program, cfg))), nil
}

func isConfig(cfg api.Config) bool {
	return (cfg.Domain == api.Intervals || cfg.Domain == api.Congruences) &&
		isWithin(cfg.Delay, api.MaxDelay) && isWithin(cfg.Narrow, api.MaxNarrow) && isWithin(cfg.Unroll, api.MaxUnroll)
}

// isWithin tells whether a number is from 0 to the greatest that it may be.
func isWithin(n, greatest int) bool { return 0 <= n && n <= greatest }

func thresholds(program tree.Program, cfg api.Config) []tree.Number {
	if !cfg.Thresholds {
		return nil
	}
	return program.Numbers
}

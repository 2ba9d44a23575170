package script

import (
	"strconv"
	"strings"

	"derrick/api"
	"derrick/check"
	"derrick/drive"
	"derrick/parse"
	"derrick/print"
)

// desk is what there is while a script is read.
type desk struct {
	source          string
	schedule, force []int
	words           int
}

func atFirst() desk {
	return desk{words: 4096}
}

// check tells how much a right source declares.
func (d *desk) check() string {
	unit, fault := check.Check(d.source)
	if fault != (api.Fault{}) {
		return d.explain(fault)
	}
	return "ok funcs " + strconv.Itoa(len(unit.Funcs)) + " vars " + strconv.Itoa(len(unit.Vars)) + " structs " + strconv.Itoa(len(unit.Structs)) + "\n"
}

// show tells the source in layer 3's form, as the lines of a script that would have it for its source.
func (d *desk) show() string {
	file, fault := parse.Parse(d.source)
	if fault != (api.Fault{}) {
		return d.explain(fault)
	}
	var shown strings.Builder
	for line := range strings.Lines(print.File(file)) {
		shown.WriteByte('|')
		shown.WriteString(line)
	}
	return shown.String()
}

// run runs the source on the machine over a heap.
func (d *desk) run(thousands int) string {
	report, fault := drive.Run(d.source, api.Config{Script: d.schedule, Force: d.force, Words: d.words, Fuel: 1000 * thousands})
	if fault != (api.Fault{}) {
		return d.explain(fault)
	}
	return told(report.Outcome)
}

// walk runs the source on the machine without bounds.
func (d *desk) walk(thousands int) string {
	outcome, fault := drive.Walk(d.source, d.schedule, 1000*thousands)
	if fault != (api.Fault{}) {
		return d.explain(fault)
	}
	return told(outcome)
}

func (d *desk) explain(fault api.Fault) string {
	return drive.Explain(d.source, fault) + "\n"
}

// told is how a run ended. What one that goes on has put out isn't told.
func told(outcome api.Outcome) string {
	switch outcome.State {
	case api.Exited:
		return "exited " + quoted(outcome.Output) + "\n"
	case api.Fatal:
		return "fatal " + quoted(outcome.Output) + " " + outcome.Why + "\n"
	case api.NoMemory:
		return "memory " + quoted(outcome.Output) + "\n"
	}
	return "running\n"
}

// quoted lets layer 3 quote, so that an output stands here as it would in a source.
func quoted(text string) string {
	return print.Expr(api.Node{Kind: api.EStr, Text: text})
}

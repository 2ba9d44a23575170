package vm

// tellRoots tells a collection of the roots.
func (m *machine) tellRoots(tell func(w int)) {
	for w := range m.roots {
		tell(w)
	}
}

// roots goes through the words outside of the space that may be references.
func (m *machine) roots(yield func(w int) bool) {
	for k, isReference := range m.program.Globals {
		if isReference && !yield(m.globals[k]) {
			return
		}
	}
	for f := range m.underWay {
		for w := range f.kept {
			if !yield(w) {
				return
			}
		}
	}
}

// underWay goes through all functions under way.
func (m *machine) underWay(yield func(f *frame) bool) {
	for _, t := range m.tasks {
		if t == nil {
			continue
		}
		for _, f := range t.frames {
			if !yield(f) {
				return
			}
		}
	}
}

// kept goes through the registers of a function that hold references, and through what it deferred. What it answers,
// and what it waits to send, and where, stands in registers too: none of them is written while its deferred calls
// are made, or while it waits.
func (f *frame) kept(yield func(w int) bool) {
	for r, isReference := range f.of.Refs {
		if isReference && !yield(f.registers[r]) {
			return
		}
	}
	for _, c := range f.deferred {
		for w := range c.kept {
			if !yield(w) {
				return
			}
		}
	}
}

// kept goes through who is called, and those arguments that are references.
func (c call) kept(yield func(w int) bool) {
	if !yield(c.function) {
		return
	}
	for k, w := range c.args {
		if c.of.Reference(k) && !yield(w) {
			return
		}
	}
}

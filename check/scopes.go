package check

// scopes are the names that are there, in a map for each scope from the file's inwards. The maps of scopes
// that were left stay behind the open ones, cleared, for those that are entered next.
type scopes struct {
	maps []map[string]int
	open int
}

func (s *scopes) enter() {
	if s.open == len(s.maps) {
		s.maps = append(s.maps, map[string]int{})
	}
	s.open++
}

func (s *scopes) leave() {
	s.open--
	clear(s.maps[s.open])
}

// add puts a name into the innermost scope, with what it stands for; it is false if the scope has that name.
func (s *scopes) add(name string, ref int) bool {
	innermost := s.maps[s.open-1]
	if _, ok := innermost[name]; ok {
		return false
	}
	innermost[name] = ref
	return true
}

// find is what a name stands for in the innermost scope that has it; 0 if none does.
func (s *scopes) find(name string) int {
	for i := s.open - 1; i >= 0; i-- {
		if ref, ok := s.maps[i][name]; ok {
			return ref
		}
	}
	return 0
}

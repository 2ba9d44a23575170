package drive

import (
	"strconv"
	"strings"

	"derrick/api"
)

// Explain tells in words why, and where, a source is refused.
func Explain(src string, f api.Fault) string {
	switch {
	case f == api.Fault{}:
		return "ok"
	case f.Stage == api.TooBig || f.Stage == api.Types: // their places tell nothing: the source's limit, and none
		return stageWords(f.Stage)
	}
	line, octet := position(src, f.At)
	return stageWords(f.Stage) + ": line " + strconv.Itoa(line) + ", byte " + strconv.Itoa(octet)
}

func stageWords(stage int) string {
	switch stage {
	case api.TooBig:
		return "too big"
	case api.Lexical:
		return "lexical"
	case api.TooDeep:
		return "too deep"
	case api.Syntax:
		return "syntax"
	case api.Types:
		return "types"
	}
	return "fault"
}

// position is the line of a place, and the byte in it, from 1 on both. A place outside of the source stands for the nearest one.
func position(src string, at int) (line, octet int) {
	ahead := src[:max(0, min(at, len(src)))]
	begin := 1 + strings.LastIndexByte(ahead, '\n')
	return 1 + strings.Count(ahead, "\n"), 1 + len(ahead) - begin
}

package lex

// longestMark holds by its first byte how many bytes a mark has at most; 0 where none begins.
var longestMark = [128]int8{
	'(': 1, ')': 1, '[': 1, ']': 1, '{': 1, '}': 1,
	',': 1, ';': 1, '.': 1, '/': 1, '%': 1,
	':': 2, '=': 2, '!': 2, '<': 2, '>': 2,
	'+': 2, '-': 2, '*': 2, '&': 2, '|': 2,
}

// markLength tells how many bytes the longest mark has with which the text begins; 0 if none. The text isn't empty.
func markLength(text string) int {
	c := text[0]
	if int(c) >= len(longestMark) {
		return 0
	}
	switch longestMark[c] {
	case 2:
		if len(text) > 1 && isPair(text[:2]) {
			return 2
		}
		if c == '|' { // the one byte that begins a mark of two and is none alone
			return 0
		}
		fallthrough
	case 1:
		return 1
	}
	return 0
}

func isPair(text string) bool {
	switch text {
	case ":=", "==", "!=", "<=", ">=", "&&", "||", "<-", "++", "--", "+=", "-=", "*=":
		return true
	}
	return false
}

// markEnds tells whether a line's end behind the mark is a semicolon.
func markEnds(text string) bool {
	switch text {
	case "++", "--", ")", "]", "}":
		return true
	}
	return false
}

package lex

// IsWord tells whether a name is a word of the language.
func IsWord(name string) bool {
	switch name {
	case "append", "bool", "break", "cap", "case", "chan", "close", "continue",
		"default", "defer", "else", "fallthrough", "false", "for", "func", "go",
		"if", "int", "len", "make", "new", "nil", "panic", "print", "recover",
		"return", "select", "string", "struct", "switch", "true", "type", "var":
		return true
	}
	return false
}

// wordEnds tells whether a line's end behind the word is a semicolon.
func wordEnds(word string) bool {
	switch word {
	case "break", "continue", "fallthrough", "return", "true", "false", "nil", "int", "bool", "string":
		return true
	}
	return false
}

package script

import "strings"

// maxDigits is how many digits a number in a script has at most, maxThousands how many thousands of steps a run has.
const (
	maxDigits    = 15
	maxThousands = 100000
)

// The answers that say no more than whether a line is of one of the forms.
const (
	done   = "ok\n"
	refuse = "error\n"
)

// answer does what a line asks for. The answer has its line ends.
func (d *desk) answer(line string) string {
	if text, isText := strings.CutPrefix(line, "|"); isText {
		d.source += text + "\n"
		return done
	}
	words := strings.Split(line, " ")
	given, areNumbers := numbers(words[1:])
	if !areNumbers || !takes(words[0], given) {
		return refuse
	}
	switch words[0] {
	case "check":
		return d.check()
	case "show":
		return d.show()
	case "run":
		return d.run(given[0])
	case "walk":
		return d.walk(given[0])
	}
	d.set(words[0], given)
	return done
}

// set changes what the lines behind this one find.
func (d *desk) set(what string, given []int) {
	switch what {
	case "clear":
		*d = atFirst()
	case "schedule":
		d.schedule = given
	case "force":
		d.force = given
	case "words":
		d.words = given[0]
	}
}

// takes tells whether a line of these numbers may begin with a word.
func takes(word string, given []int) bool {
	switch word {
	case "clear", "check", "show":
		return len(given) == 0
	case "schedule", "force":
		return true
	case "words":
		return len(given) == 1
	case "run", "walk":
		return len(given) == 1 && 0 <= given[0] && given[0] <= maxThousands
	}
	return false
}

// numbers reads words as numbers; false, if one is none.
func numbers(words []string) ([]int, bool) {
	var all []int
	for _, word := range words {
		n, isNumber := number(word)
		if !isNumber {
			return nil, false
		}
		all = append(all, n)
	}
	return all, true
}

// number reads a number in the one way in which a script may write it: package strconv takes more, so it isn't asked.
func number(word string) (int, bool) {
	digits, isBelow := strings.CutPrefix(word, "-")
	if digits == "" || len(digits) > maxDigits || digits[0] == '0' && word != "0" {
		return 0, false
	}
	n := 0
	for _, c := range []byte(digits) {
		if c < '0' || c > '9' {
			return 0, false
		}
		n = 10*n + int(c-'0')
	}
	if isBelow {
		n = -n
	}
	return n, true
}

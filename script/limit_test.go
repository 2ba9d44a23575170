package script_test

import (
	"math/rand"
	"strings"
	"testing"

	"derrick/api"
	"derrick/script"
)

// isRefused holds that a text isn't answered.
func isRefused(t *testing.T, what, text string) {
	t.Helper()
	if answer, ok := script.Run(text); answer != "" || ok {
		t.Errorf("%s: %.40q %v", what, answer, ok)
	}
}

func TestMostBytes(t *testing.T) {
	for _, x := range []struct{ begin, fill, answer string }{
		{"", "x", "error\n"}, {"|", "x", "ok\n"}, {"|", "\xff", "ok\n"}, {"check\n|//", " ", "types\nok\n"}, {"", " ", "error\n"}, {"schedule 1", "1", "error\n"}, {"", "\r", "error\n"},
	} {
		most := x.begin + strings.Repeat(x.fill, api.MaxSlots-len(x.begin))
		answers(t, most, x.answer)
		answers(t, most[:len(most)-1]+"\n", x.answer)
		answers(t, most[:len(most)-1], x.answer)
		isRefused(t, "a byte more", most+x.fill)
		isRefused(t, "a line end more", most+"\n")
		isRefused(t, "many more", strings.Repeat(most, 4))
	}
	numbers := "schedule" + strings.Repeat(" 1", (api.MaxSlots-8)/2)
	if len(numbers) != api.MaxSlots {
		t.Fatal(len(numbers))
	}
	answers(t, numbers, "ok\n")
	isRefused(t, "a byte more", numbers+"1")
	answers(t, strings.Replace(numbers, " 1", "1 ", 1), "error\n")
	answers(t, numbers[:len(numbers)-1], "error\n")
}

func TestMostLines(t *testing.T) {
	for _, line := range []string{"", "clear", "|", "hm", "schedule 1 2", "|func main() { }"} {
		answer := strings.TrimSuffix(answered(t, line+"\n"), "\n") + "\n"
		most := strings.Repeat(line+"\n", api.MaxLines)
		answers(t, most, strings.Repeat(answer, api.MaxLines))
		answers(t, most[:len(most)-len(line)-1], strings.Repeat(answer, api.MaxLines-1))
		isRefused(t, "a line more", most+line+"\n")
		isRefused(t, "a byte more", most+"|")
		isRefused(t, "a line end more", most+"\n")
		isRefused(t, "twice as many", most+most)
		if line != "" {
			answers(t, most[:len(most)-1], strings.Repeat(answer, api.MaxLines))
		}
	}
	isRefused(t, "lines alone", strings.Repeat("\n", api.MaxSlots))
	isRefused(t, "both", strings.Repeat("\n", api.MaxSlots+1))
}

// TestAllLinesRun has as many runs as there can be lines.
func TestAllLinesRun(t *testing.T) {
	const n = api.MaxLines - 1
	answers(t, "|func main() { print(1) }\n"+strings.Repeat("run 1\n", n), "ok\n"+strings.Repeat("exited \"1\"\n", n))
	answers(t, "|func main() { print(1) }\n"+strings.Repeat("show\n", n), "ok\n"+strings.Repeat("|func main() {\n|\tprint(1)\n|}\n", n))
}

// TestAnyTexts runs texts of any bytes: each comes to an end, and has an answer a line.
func TestAnyTexts(t *testing.T) {
	for seed := range 3000 {
		chance := rand.New(rand.NewSource(int64(seed)))
		b := make([]byte, chance.Intn(400))
		for k := range b {
			b[k] = "\n\n |-0123456789abcdefghiklmnoprstuwy(){}"[chance.Intn(40)]
			if seed%3 == 0 {
				b[k] = byte(chance.Intn(256))
			}
		}
		text := string(b)
		isHistory(t, text)
	}
}

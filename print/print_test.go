package print_test

import (
	"strings"
	"testing"

	"derrick/api"
	"derrick/parse"
	"derrick/print"
)

// wantFile wants the text of a source's tree, and that parsed again it is the same tree but for its places.
func wantFile(t *testing.T, src, want string) {
	t.Helper()
	tree, fault := parse.Parse(src)
	if fault != (api.Fault{}) {
		t.Fatalf("%q: %v", src, fault)
	}
	got := print.File(tree)
	if got != want {
		t.Errorf("%q:\n%s\nnot\n%s", src, got, want)
	}
	wantSameTree(t, got, tree)
}

func wantSameTree(t *testing.T, text string, tree api.Node) {
	t.Helper()
	again, fault := parse.Parse(text)
	if fault != (api.Fault{}) || !sameTree(parse.Bare(again), parse.Bare(tree)) {
		t.Errorf("parsed again (%v) another tree:\n%s", fault, text)
	}
}

// sameTree is whether two trees are the same; an empty list may be nil or empty.
func sameTree(a, b api.Node) bool {
	if a.Kind != b.Kind || a.Text != b.Text || a.Num != b.Num || a.At != b.At || a.Type != b.Type || a.Ref != b.Ref || len(a.Kids) != len(b.Kids) {
		return false
	}
	for i := range a.Kids {
		if !sameTree(a.Kids[i], b.Kids[i]) {
			return false
		}
	}
	return true
}

// wantStmts wants the lines of a function's statements, written here without the tab that each has.
func wantStmts(t *testing.T, stmts string, lines ...string) {
	t.Helper()
	want := "func f() {\n"
	for _, line := range lines {
		want += "\t" + line + "\n"
	}
	wantFile(t, "func f(){"+stmts+"}", want+"}\n")
}

// wantExpr wants an expression's text, alone and in a statement.
func wantExpr(t *testing.T, expr, want string) {
	t.Helper()
	tree, fault := parse.Parse("func f(){x:=" + expr + "}")
	if fault != (api.Fault{}) {
		t.Fatalf("%q: %v", expr, fault)
	}
	define := tree.Kids[0].Kids[2].Kids[0]
	if got := print.Expr(define.Kids[0]); got != want {
		t.Errorf("%q: %s, not %s", expr, got, want)
	}
	wantStmts(t, "x:="+expr, strings.Split("x := "+want, "\n")...)
}

func TestChapterExample(t *testing.T) {
	wantFile(t, "func main(){x:=1+2*y;if x>3{return}}",
		"func main() {\n\tx := (1 + (2 * y))\n\tif (x > 3) {\n\t\treturn\n\t}\n}\n")
}

func TestFiles(t *testing.T) {
	wantFile(t, "", "")
	wantFile(t, "\n// nothing\n", "")
	wantFile(t, "var a int", "var a int\n")
	wantFile(t, "var a int;var b bool;func f(){};type T struct{}", "var a int\nvar b bool\nfunc f() {\n}\ntype T struct {\n}\n")
}

func TestTypeDecls(t *testing.T) {
	wantFile(t, "type T struct{a int;}", "type T struct {\n\ta int\n}\n")
	wantFile(t, "type Pair struct{a int;next *Pair;f func(int)bool;}", "type Pair struct {\n\ta int\n\tnext *Pair\n\tf func(int) bool\n}\n")
}

func TestTypes(t *testing.T) {
	for src, want := range map[string]string{
		"int": "int", "bool": "bool", "string": "string",
		"* T":                    "*T",
		"[ ]int":                 "[]int",
		"[][]*T":                 "[][]*T",
		"chan   string":          "chan string",
		"chan chan[]chan*T":      "chan chan []chan *T",
		"func( )":                "func()",
		"func()int":              "func() int",
		"func(int)":              "func(int)",
		"func(int,bool,*T)[]int": "func(int, bool, *T) []int",
		"func(func())func()":     "func(func()) func()",
		"func(func(int)bool,chan func())func()*T": "func(func(int) bool, chan func()) func() *T",
		"[]func()chan func(string)*T":             "[]func() chan func(string) *T",
	} {
		wantFile(t, "var v "+src, "var v "+want+"\n")
		wantFile(t, "type T struct{v "+src+";}", "type T struct {\n\tv "+want+"\n}\n")
		wantFile(t, "func f(v "+src+"){}", "func f(v "+want+") {\n}\n")
		wantFile(t, "func f()"+src+"{}", "func f() "+want+" {\n}\n")
		wantStmts(t, "var v "+src, "var v "+want)
		wantStmts(t, "var v "+src+"=nil", "var v "+want+" = nil")
		wantExpr(t, "make("+src+")", "make("+want+")")
		wantExpr(t, "make("+src+",1)", "make("+want+", 1)")
		wantExpr(t, "[]"+src+"{}", "([]"+want+"{})")
	}
}

func TestFunctions(t *testing.T) {
	wantFile(t, "func f(){}", "func f() {\n}\n")
	wantFile(t, "func f(a int){}", "func f(a int) {\n}\n")
	wantFile(t, "func f(a int,b bool)string{return s}", "func f(a int, b bool) string {\n\treturn s\n}\n")
	wantFile(t, "func f(g func(int)int)func(){}", "func f(g func(int) int) func() {\n}\n")
}

func TestSimpleStmts(t *testing.T) {
	wantStmts(t, "x:=1", "x := 1")
	wantStmts(t, "var x int;var y bool=true", "var x int", "var y bool = true")
	wantStmts(t, "x=1;x+=2;x-=3;x*=4", "x = 1", "x += 2", "x -= 3", "x *= 4")
	wantStmts(t, "a[0]=b.c;b.c+=a[0]", "a[0] = b.c", "b.c += a[0]")
	wantStmts(t, "x++;x--;a[i]++;b.c--", "x++", "x--", "a[i]++", "b.c--")
	wantStmts(t, "c<-1;b.c<-x+1;(a+b)<-<-d", "c <- 1", "b.c <- (x + 1)", "(a + b) <- (<-d)")
	wantStmts(t, "f();f(1,2);a.f()(3);print();recover()", "f()", "f(1, 2)", "a.f()(3)", "print()", "recover()")
	wantStmts(t, "<-c;<-<-c;<-(a+b);<--x", "<-c", "<-(<-c)", "<-(a + b)", "<-(-x)")
	wantStmts(t, "go f();defer a.b(1);go print(1);defer close(c)", "go f()", "defer a.b(1)", "go print(1)", "defer close(c)")
	wantStmts(t, ";;;x++;;", "x++")
}

func TestJumps(t *testing.T) {
	wantStmts(t, "break;break L;continue;continue L;fallthrough", "break", "break L", "continue", "continue L", "fallthrough")
	wantStmts(t, "return;return 1;return-x", "return", "return 1", "return (-x)")
	wantStmts(t, "return\nx()", "return", "x()")
}

func TestBlocks(t *testing.T) {
	wantStmts(t, "{}", "{", "}")
	wantStmts(t, "{x++;{y--;{}}};z()", "{", "\tx++", "\t{", "\t\ty--", "\t\t{", "\t\t}", "\t}", "}", "z()")
}

func TestIfs(t *testing.T) {
	wantStmts(t, "if a{}", "if a {", "}")
	wantStmts(t, "if a{x++}else{y++}", "if a {", "\tx++", "} else {", "\ty++", "}")
	wantStmts(t, "if!a{}else if b{x++}else if c{}else{{}}", "if (!a) {", "} else if b {", "\tx++", "} else if c {", "} else {", "\t{", "\t}", "}")
	wantStmts(t, "if a{}else{if b{}}", "if a {", "} else {", "\tif b {", "\t}", "}")
	wantStmts(t, "if(&T{}==p){}", "if ((&T{}) == p) {", "}")
	wantStmts(t, "if ([]int{1})[0]==1{}", "if (([]int{1})[0] == 1) {", "}")
}

func TestFors(t *testing.T) {
	wantStmts(t, "for{}", "for {", "}")
	wantStmts(t, "for;;{x++}", "for {", "\tx++", "}")
	wantStmts(t, "for a{}", "for a {", "}")
	wantStmts(t, "for;a;{}", "for a {", "}")
	wantStmts(t, "for i:=0;i<3;i++{}", "for i := 0; (i < 3); i++ {", "}")
	wantStmts(t, "for;a;i++{}", "for ; a; i++ {", "}")
	wantStmts(t, "for;;i++{}", "for ; ; i++ {", "}")
	wantStmts(t, "for i=0;;i+=2{}", "for i = 0; ; i += 2 {", "}")
	wantStmts(t, "for f();;c<-1{}", "for f(); ; c <- 1 {", "}")
	wantStmts(t, "for<-c;<-d;<-e{}", "for <-c; (<-d); <-e {", "}")
	wantStmts(t, "for f(){}", "for f() {", "}")
	wantStmts(t, "for<-c{}", "for (<-c) {", "}")
	wantStmts(t, "for x=(&T{});;{}", "for x = (&T{}); ; {", "}")
}

// The blank ahead of the block stands once, whether there is a last part or not.
func TestForsWithoutLast(t *testing.T) {
	wantStmts(t, "for i:=0;i<3;{}", "for i := 0; (i < 3); {", "}")
	wantStmts(t, "for i:=0;;{}", "for i := 0; ; {", "}")
	wantStmts(t, "for f();;{{}}", "for f(); ; {", "\t{", "\t}", "}")
}

func TestSwitches(t *testing.T) {
	wantStmts(t, "switch{}", "switch {", "}")
	wantStmts(t, "switch x{}", "switch x {", "}")
	wantStmts(t, "switch x+1{case 1:}", "switch (x + 1) {", "case 1:", "}")
	wantStmts(t, "switch{case a,b,!c:x++;y++;default:;case d:fallthrough;default:z()}",
		"switch {", "case a, b, (!c):", "\tx++", "\ty++", "default:", "case d:", "\tfallthrough", "default:", "\tz()", "}")
	wantStmts(t, "{switch x{case 1:switch{default:{y++}}}}",
		"{", "\tswitch x {", "\tcase 1:", "\t\tswitch {", "\t\tdefault:", "\t\t\t{", "\t\t\t\ty++", "\t\t\t}", "\t\t}", "\t}", "}")
}

func TestSelects(t *testing.T) {
	wantStmts(t, "select{}", "select {", "}")
	wantStmts(t, "select{case v:=<-c:x++;y++;case<-d:;case c<-1:z();default:return}",
		"select {", "case v := <-c:", "\tx++", "\ty++", "case <-d:", "case c <- 1:", "\tz()", "default:", "\treturn", "}")
	wantStmts(t, "select{case v:=<-<-c:case<-(a+b):case<--x:case(<-c)<-<-d:case a.b[1]<-!x:}",
		"select {", "case v := <-(<-c):", "case <-(a + b):", "case <-(-x):", "case (<-c) <- (<-d):", "case a.b[1] <- (!x):", "}")
	wantStmts(t, "{select{case<-c:select{default:{y++}}}}",
		"{", "\tselect {", "\tcase <-c:", "\t\tselect {", "\t\tdefault:", "\t\t\t{", "\t\t\t\ty++", "\t\t\t}", "\t\t}", "\t}", "}")
}

func TestLabels(t *testing.T) {
	wantStmts(t, "L:for{break L}", "L: for {", "\tbreak L", "}")
	wantStmts(t, "L:switch x{case 1:M:select{default:}}", "L: switch x {", "case 1:", "\tM: select {", "\tdefault:", "\t}", "}")
}

func TestOperands(t *testing.T) {
	for _, same := range []string{"0", "7", "999999999999999999", "true", "false", "nil", "x", "_a1", `""`, `"a b"`} {
		wantExpr(t, same, same)
		wantExpr(t, "("+same+")", same)
	}
}

func TestTexts(t *testing.T) {
	wantExpr(t, `"\n\"\\n\\"`, `"\n\"\\n\\"`)
	for c := range 256 {
		one := string([]byte{byte(c)})
		want := one
		switch c {
		case '\n':
			want = `\n`
		case '"', '\\':
			want = `\` + one
		}
		if got := print.Expr(api.Node{Kind: api.EStr, Text: "a" + one + one + "n"}); got != `"a`+want+want+`n"` {
			t.Errorf("byte %d: %s", c, got)
		}
	}
	long := `"` + strings.Repeat(`\n`, api.MaxText) + `"`
	wantExpr(t, long, long)
}

func TestNumbers(t *testing.T) {
	for num, want := range map[int]string{0: "0", 10: "10", -1: "-1", -1 << 63: "-9223372036854775808", 1<<63 - 1: "9223372036854775807"} {
		if got := print.Expr(api.Node{Kind: api.EInt, Num: num}); got != want {
			t.Errorf("%s, not %s", got, want)
		}
	}
}

func TestOperators(t *testing.T) {
	wantExpr(t, "-x", "(-x)")
	wantExpr(t, "!!x", "(!(!x))")
	wantExpr(t, "<-c", "(<-c)")
	wantExpr(t, "- -1", "(-(-1))")
	for _, operator := range strings.Fields("|| && == != < <= > >= + - * / %") {
		wantExpr(t, "a"+operator+" b", "(a "+operator+" b)")
		wantExpr(t, "a"+operator+"(b"+operator+" c)", "(a "+operator+" (b "+operator+" c))")
		wantExpr(t, "a"+operator+" b"+operator+" c", "((a "+operator+" b) "+operator+" c)")
	}
	wantExpr(t, "a||b&&c==d+e* -f", "(a || (b && (c == (d + (e * (-f))))))")
	wantExpr(t, "(((a)+(b)))", "(a + b)")
}

func TestPrimaries(t *testing.T) {
	wantExpr(t, "f()", "f()")
	wantExpr(t, "f(1,g(),-2)(3)", "f(1, g(), (-2))(3)")
	wantExpr(t, "a[1][b[2]]", "a[1][b[2]]")
	wantExpr(t, "a[:]", "a[:]")
	wantExpr(t, "a[1:]", "a[1:]")
	wantExpr(t, "a[:2]", "a[:2]")
	wantExpr(t, "a[i+1:len(a)-1]", "a[(i + 1):(len(a) - 1)]")
	wantExpr(t, "a.b.c", "a.b.c")
	wantExpr(t, "1.b", "1.b")
	wantExpr(t, "(-a).b[0](1)[:]", "(-a).b[0](1)[:]")
	wantExpr(t, "(a+b).c", "(a + b).c")
}

func TestBuiltins(t *testing.T) {
	for _, word := range strings.Fields("append cap close len panic print recover") {
		wantExpr(t, word+"()", word+"()")
		wantExpr(t, word+"(a,1 , b+c)", word+"(a, 1, (b + c))")
		wantExpr(t, word+"()[0]", word+"()[0]")
	}
	wantExpr(t, "make([]int,n+1)[0]", "make([]int, (n + 1))[0]")
	wantExpr(t, "make(chan int)", "make(chan int)")
	wantExpr(t, "new(T).a", "new(T).a")
}

func TestCompounds(t *testing.T) {
	wantExpr(t, "&T{}", "(&T{})")
	wantExpr(t, "&T{a:1}", "(&T{a: 1})")
	wantExpr(t, "&T{a:1,b:&U{c:-x,},}.b", "(&T{a: 1, b: (&U{c: (-x)})}).b")
	wantExpr(t, "[]int{}", "([]int{})")
	wantExpr(t, "[]int{1,}[0]", "([]int{1})[0]")
	wantExpr(t, "[][]int{[]int{1,2},nil}", "([][]int{([]int{1, 2}), nil})")
	wantExpr(t, "[]func(){f}", "([]func(){f})")
}

func TestPlacesAreNotRead(t *testing.T) {
	var marked func(n api.Node) api.Node
	marked = func(n api.Node) api.Node {
		kids := []api.Node{}
		for _, kid := range n.Kids {
			kids = append(kids, marked(kid))
		}
		return api.Node{Kind: n.Kind, Text: n.Text, Num: n.Num, At: n.At*3 - 50, Type: "nil", Ref: 7 - n.At, Kids: kids}
	}
	src := "type T struct{a int;};var v bool;func f(a int)int{L:for i:=0;a<1;{select{case v:=<-c:continue L;case d<-1:}};return func()int{return 1}()}"
	tree, fault := parse.Parse(src)
	if fault != (api.Fault{}) {
		t.Fatal(fault)
	}
	want := print.File(tree)
	if got := print.File(marked(tree)); got != want {
		t.Errorf("%s\nnot\n%s", got, want)
	}
	if got := print.File(parse.Bare(tree)); got != want {
		t.Errorf("%s\nnot\n%s", got, want)
	}
}

package parse

import (
	"errors"
	"reflect"
	"strconv"
	"strings"
	"testing"

	"derrick/api"
)

// kindNames are the kinds from NFile on, as show writes them.
var kindNames = strings.Fields("File TypeDecl VarDecl FuncDecl Field Params Param none Int Bool String Ptr Slice Chan Func Block Define Var Assign Step If For Switch Case Select Comm Break Continue Fall Return Go Defer Send Expr Label int str bool nil name unary binary call builtin index slice sel func new list")

// show writes a tree as kind'text'num@at(kids), without what is zero.
func show(n api.Node) string {
	s := "?" + strconv.Itoa(n.Kind)
	if n.Kind >= 1 && n.Kind <= len(kindNames) {
		s = kindNames[n.Kind-1]
	}
	if n.Text != "" {
		s += "'" + n.Text
	}
	if n.Num != 0 {
		s += "'" + strconv.Itoa(n.Num)
	}
	if n.At != 0 {
		s += "@" + strconv.Itoa(n.At)
	}
	if n.Ref != 0 || n.Type != "" {
		s += "!"
	}
	if len(n.Kids) > 0 {
		var kids []string
		for _, k := range n.Kids {
			kids = append(kids, show(k))
		}
		s += "(" + strings.Join(kids, " ") + ")"
	}
	return s
}

func wantTree(t *testing.T, src, want string) {
	t.Helper()
	tree, fault := Parse(src)
	if got := show(tree); got != want || fault != (api.Fault{}) {
		t.Errorf("%q:\n%s %v\nnot\n%s", src, got, fault, want)
	}
}

func wantFault(t *testing.T, src string, stage, at int) {
	t.Helper()
	tree, fault := Parse(src)
	if want := (api.Fault{Stage: stage, At: at}); fault != want || !reflect.DeepEqual(tree, api.Node{}) {
		t.Errorf("%.80q: %v, tree %s, not %v", src, fault, show(tree), want)
	}
}

// wantStmts wants what the block of func f(){ .. } has for Kids. The statements begin at place 9.
func wantStmts(t *testing.T, stmts, want string) {
	t.Helper()
	if want != "" {
		want = "(" + want + ")"
	}
	wantTree(t, "func f(){"+stmts+"}", "File(FuncDecl'f(Params@6 none Block@8"+want+"))")
}

// wantBroken wants a fault at the place, counted from behind func f(){ .
func wantBroken(t *testing.T, stmts string, at int) {
	t.Helper()
	wantFault(t, "func f(){"+stmts+"}", api.Syntax, 9+at)
}

func TestChapterExamples(t *testing.T) {
	wantTree(t, "func main() { x := 1 }", "File(FuncDecl'main(Params@9 none Block@12(Define'x@14(int'1@19))))")
	wantFault(t, "x := 1", api.Syntax, 0)
	wantFault(t, "func f() { a + b }", api.Syntax, 13)
	wantFault(t, "func f() { go f }", api.Syntax, 16)
	wantFault(t, "func f() { if x == &T{} { } }", api.Syntax, 19)
	wantTree(t, "func f() { if (x == &T{}) { } }",
		"File(FuncDecl'f(Params@6 none Block@9(If@11(binary'==@17(name'x@15 new'T@20) Block@26 none))))")
}

// TestBracesAlike: a struct's brace may stand on a line of its own, for no semicolon stands behind struct.
func TestBracesAlike(t *testing.T) {
	wantTree(t, "type T struct\n{ }", "File(TypeDecl'T)")
}

func TestDecls(t *testing.T) {
	wantTree(t, "", "File")
	wantTree(t, "// nothing\n\n", "File")
	wantTree(t, "type T struct { }", "File(TypeDecl'T)")
	wantTree(t, "type T struct {\n a int\n b *T;}\n", "File(TypeDecl'T(Field'a@17(Int@19) Field'b@24(Ptr'T@26)))")
	wantTree(t, "var a bool; var b string", "File(VarDecl'a(Bool@6) VarDecl'b@12(String@18))")
	wantTree(t, "func f(a int, b []bool) chan int { }",
		"File(FuncDecl'f(Params@6(Param'a@7(Int@9) Param'b@14(Slice@16(Bool@18))) Chan@24(Int@29) Block@33))")
}

func TestTypes(t *testing.T) {
	wantTree(t, "var v func()", "File(VarDecl'v(Func@6(none)))")
	wantTree(t, "var v func(int, *T) []chan func() bool",
		"File(VarDecl'v(Func@6(Int@11 Ptr'T@16 Slice@20(Chan@22(Func@27(Bool@34))))))")
	wantTree(t, "var v func(func() int, func(bool)) func() string",
		"File(VarDecl'v(Func@6(Func@11(Int@18) Func@23(Bool@28 none) Func@35(String@42))))")
	wantStmts(t, "x:=[]func(){}", "Define'x@9(list@12(Func@14(none)))")
	wantStmts(t, "x:=[]func()*T{y}", "Define'x@9(list@12(Func@14(Ptr'T@20) name'y@23))")
}

func TestStmts(t *testing.T) {
	wantStmts(t, "", "")
	wantStmts(t, ";;\n;", "")
	wantStmts(t, "var x int;;var y *T = nil", "Var'x@9(Int@15 none) Var'y@20(Ptr'T@26 nil@31)")
	wantStmts(t, "{};{{}}", "Block@9 Block@12(Block@13)")
	wantStmts(t, "x=1;x.f+=2;x[i]-=3\nx().f*=4", "Assign'=@10(name'x@9 int'1@11) Assign'+=@16(sel'f@14(name'x@13) int'2@18) Assign'-=@24(index@21(name'x@20 name'i@22) int'3@26) Assign'*=@33(sel'f@31(call@29(name'x@28)) int'4@35)")
	wantStmts(t, "x++;x.f--", "Step'++@10(name'x@9) Step'--@16(sel'f@14(name'x@13))")
	wantStmts(t, "x<- -1;f()<-2;1<-3;(x)<-4", "Send@10(name'x@9 unary'-@13(int'1@14)) Send@19(call@17(name'f@16) int'2@21) Send@24(int'1@23 int'3@26) Send@31(name'x@29 int'4@33)")
	wantStmts(t, "f();<-c;<-f(1)\nx.g(a)", "Expr@10(call@10(name'f@9)) Expr@13(unary'<-@13(name'c@15)) Expr@17(unary'<-@17(call@20(name'f@19 int'1@21))) Expr@27(call@27(sel'g@25(name'x@24) name'a@28))")
	wantStmts(t, "break;break L;continue;continue M;fallthrough", "Break@9 Break'L@15 Continue@23 Continue'M@32 Fall@43")
	wantStmts(t, "return;return\nreturn x", "Return@9(none) Return@16(none) Return@23(name'x@30)")
	wantStmts(t, "go f();defer x.f(1);go print();defer func(){}()", "Go@9(call@13(name'f@12)) Defer@16(call@25(sel'f@23(name'x@22) int'1@26)) Go@29(builtin'print@32) Defer@40(call@54(func@46(Params@50 none Block@52)))")
	wantStmts(t, "L:for{}\nM:switch{};N:select{}", "Label'L@9(For@11(none none none Block@14)) Label'M@17(Switch@19(none)) Label'N@28(Select@30)")
}

func TestBranches(t *testing.T) {
	wantStmts(t, "if x{}", "If@9(name'x@12 Block@13 none)")
	wantStmts(t, "if x{}else{y()}", "If@9(name'x@12 Block@13 Block@19(Expr@21(call@21(name'y@20))))")
	wantStmts(t, "if x{}else if y{}else{}", "If@9(name'x@12 Block@13 If@20(name'y@23 Block@24 Block@30))")
	wantStmts(t, "for{}", "For@9(none none none Block@12)")
	wantStmts(t, "for x{}", "For@9(none name'x@13 none Block@14)")
	wantStmts(t, "for f(){}", "For@9(none call@14(name'f@13) none Block@16)")
	wantStmts(t, "for <-c{}", "For@9(none unary'<-@13(name'c@15) none Block@16)")
	wantStmts(t, "for <-c==1{}", "For@9(none binary'==@16(unary'<-@13(name'c@15) int'1@18) none Block@19)")
	wantStmts(t, "for a||b&&c{}", "For@9(none binary'||@14(name'a@13 binary'&&@17(name'b@16 name'c@19)) none Block@20)")
	wantStmts(t, "for;;{}", "For@9(none none none Block@14)")
	wantStmts(t, "for f();;{}", "For@9(Expr@14(call@14(name'f@13)) none none Block@18)")
	wantStmts(t, "for <-c;x;<-d{}", "For@9(Expr@13(unary'<-@13(name'c@15)) name'x@17 Expr@19(unary'<-@19(name'd@21)) Block@22)")
	wantStmts(t, "for i:=0;i<3;i++{}", "For@9(Define'i@13(int@16) binary'<@19(name'i@18 int'3@20) Step'++@23(name'i@22) Block@25)")
	wantStmts(t, "for x[0]=1;;c<-1{}", "For@9(Assign'=@17(index@14(name'x@13 int@15) int'1@18) none Send@22(name'c@21 int'1@24) Block@25)")
	wantStmts(t, "switch{case x,1:y();default:}", "Switch@9(none Case'case@16(name'x@21 int'1@23 Block@24(Expr@26(call@26(name'y@25)))) Case'default@29(Block@36))")
	wantStmts(t, "switch f(){default:return case 1:}", "Switch@9(call@17(name'f@16) Case'default@20(Block@27(Return@28(none))) Case'case@35(int'1@40 Block@41))")
	wantStmts(t, "select{case<-c:case v:=<-d:case x.y<-1:z();default:}", "Select@9(Comm'recv@16(name'c@22 Block@23) Comm'recv@24(Param'v@29 name'd@34 Block@35) Comm'send@36(sel'y@42(name'x@41) int'1@46 Block@47(Expr@49(call@49(name'z@48)))) Comm'default@52(Block@59))")
	wantStmts(t, "select{case<- -c[0]:case(v)<-<-d:}", "Select@9(Comm'recv@16(unary'-@23(index@25(name'c@24 int@26)) Block@28) Comm'send@29(name'v@34 unary'<-@38(name'd@40) Block@41))")
}

func TestOperands(t *testing.T) {
	wantStmts(t, `x=12;x="a\n";x=true;x=false;x=nil`, "Assign'=@10(name'x@9 int'12@11) Assign'=@15(name'x@14 str'a\n@16) Assign'=@23(name'x@22 bool'true@24) Assign'=@30(name'x@29 bool'false@31) Assign'=@38(name'x@37 nil@39)")
	wantStmts(t, "x=0;x=\"\"", "Assign'=@10(name'x@9 int@11) Assign'=@14(name'x@13 str@15)")
	wantStmts(t, "x=((y))", "Assign'=@10(name'x@9 name'y@13)")
	wantStmts(t, "x=a[1].b(2,3)[:]", "Assign'=@10(name'x@9 slice@22(call@17(sel'b@15(index@12(name'a@11 int'1@13)) int'2@18 int'3@20) none none))")
	wantStmts(t, "x=a[1:];x=a[:2];x=a[1:2]", "Assign'=@10(name'x@9 slice@12(name'a@11 int'1@13 none)) Assign'=@18(name'x@17 slice@20(name'a@19 none int'2@22)) Assign'=@26(name'x@25 slice@28(name'a@27 int'1@29 int'2@31))")
	wantStmts(t, "x=&T{};x=&T{a:1,};x=&T{a:1,\nb:2}", "Assign'=@10(name'x@9 new'T@11) Assign'=@17(name'x@16 new'T@18(Field'a@21(int'1@23))) Assign'=@28(name'x@27 new'T@29(Field'a@32(int'1@34) Field'b@37(int'2@39)))")
	wantStmts(t, "x=[]int{};x=[][]int{y,}", "Assign'=@10(name'x@9 list@11(Int@13)) Assign'=@20(name'x@19 list@21(Slice@23(Int@25) name'y@29))")
	wantStmts(t, "x=func(a int)bool{return a}", "Assign'=@10(name'x@9 func@11(Params@15(Param'a@16(Int@18)) Bool@22 Block@26(Return@27(name'a@34))))")
	wantStmts(t, "x=make([]int,n);x=make(chan*T);x=new(T)", "Assign'=@10(name'x@9 builtin'make@11(Slice@16(Int@18) name'n@22)) Assign'=@26(name'x@25 builtin'make@27(Chan@32(Ptr'T@36))) Assign'=@41(name'x@40 builtin'new@42(Ptr'T@46))")
	for _, word := range strings.Fields("append cap close len panic print recover") {
		end := len(word)
		wantStmts(t, word+"();"+word+"(1,a)", "Expr@9(builtin'"+word+"@9) Expr@"+strconv.Itoa(12+end)+"(builtin'"+word+"@"+strconv.Itoa(12+end)+"(int'1@"+strconv.Itoa(13+2*end)+" name'a@"+strconv.Itoa(15+2*end)+"))")
	}
}

// TestBinding goes through all pairs of operators, and unaries beside them.
func TestBinding(t *testing.T) {
	rows := []string{"||", "&&", "== != < <= > >=", "+ -", "* / %"}
	strengths := map[string]int{}
	for i, row := range rows {
		for _, operator := range strings.Fields(row) {
			strengths[operator] = i
		}
	}
	if len(strengths) != 13 {
		t.Fatal(len(strengths), "operators in the test")
	}
	for first, s := range strengths {
		for second, s2 := range strengths {
			tree, fault := Parse("func f() { x = a " + first + " -b " + second + " c }")
			if fault != (api.Fault{}) {
				t.Fatal(first, second, fault)
			}
			want := "binary'" + second + "(binary'" + first + "(name'a unary'-(name'b)) name'c)"
			if s2 > s {
				want = "binary'" + first + "(name'a binary'" + second + "(unary'-(name'b) name'c))"
			}
			if got := show(Bare(tree.Kids[0].Kids[2].Kids[0].Kids[1])); got != want {
				t.Errorf("%s %s: %s, not %s", first, second, got, want)
			}
		}
	}
	wantStmts(t, "x=a*(b+c)", "Assign'=@10(name'x@9 binary'*@12(name'a@11 binary'+@15(name'b@14 name'c@16)))")
	wantStmts(t, "x=(a+b)*c", "Assign'=@10(name'x@9 binary'*@16(binary'+@13(name'a@12 name'b@14) name'c@17))")
	wantStmts(t, "x=!-<-a.b[0]", "Assign'=@10(name'x@9 unary'!@11(unary'-@12(unary'<-@13(index@18(sel'b@16(name'a@15) int@19)))))")
	wantStmts(t, "x=-(a+b)", "Assign'=@10(name'x@9 unary'-@11(binary'+@14(name'a@13 name'b@15)))")
}

func TestTargetsAndCalls(t *testing.T) {
	for _, target := range []string{"x", "x[1]", "x.f", "(x)[1]", "(x).f", "f().g", "len(x)[0]", "1[2]", "new(T).f", "x[1:2][0]", "&T{}.f"} {
		for _, rest := range []string{"= 1", "+= 1", "-= 1", "*= 1", "++", "--", "<- 1"} {
			if _, fault := Parse("func f(){" + target + " " + rest + "}"); fault != (api.Fault{}) {
				t.Errorf("%s %s: %v", target, rest, fault)
			}
		}
		wantBroken(t, target+" / 2", len(target)+1)
		wantBroken(t, target, len(target))
	}
	for _, other := range []string{"(x)", "(x[1])", "(x.f)", "f()", "len(x)", "x[1:2]", "x[:]", "1", "nil", "func(){}", "new(T)", "make(chan int)", "&T{}", "[]int{}", `"s"`, "true"} {
		for _, rest := range []string{"= 1", "+= 1", "-= 1", "*= 1", "++", "--"} {
			wantBroken(t, other+" "+rest, len(other)+1)
		}
		if _, fault := Parse("func f(){" + other + " <- 1}"); fault != (api.Fault{}) {
			t.Errorf("%s <- 1: %v", other, fault)
		}
	}
	for _, notName := range []string{"(x)", "x.f", "x[1]", "f()", "1"} {
		wantBroken(t, notName+" := 1", len(notName)+1)
		wantBroken(t, notName+" : for {}", len(notName)+1)
	}
	for _, call := range []string{"f()", "(f)(1)", "x.f()", "x[1]()", "len(x)", "recover()", "len(x)()", "func(){}()", "1()", "make(chan int)()", "&T{}.f()"} {
		for _, ahead := range []string{"", "go ", "defer ", "for "} {
			src := ahead + call
			if ahead == "for " {
				src += ";;{}"
			}
			if _, fault := Parse("func f(){" + src + "}"); fault != (api.Fault{}) && (ahead != "for " || call[0] != '&') {
				t.Errorf("%s: %v", src, fault)
			}
		}
	}
	for _, other := range []string{"f", "(f())", "(len(x))", "f()[0]", "f().x", "make(chan int)", "new(T)", "f()[:]", "func(){}", "len(x)[0]"} {
		wantBroken(t, other, len(other))
		wantBroken(t, "go "+other, 3+len(other))
		wantBroken(t, "defer "+other+"\n", 6+len(other))
		wantBroken(t, "for "+other+";;{}", 4+len(other))
		wantBroken(t, "for ;;"+other+"{}", 6+len(other))
	}
}

func TestHeads(t *testing.T) {
	heads := []string{"if X {}", "for X {}", "for x = X; ; {}", "for x := X; ; {}", "for f()[0] = X; ; {}", "for c <- X; ; {}", "for ; X; {}", "for ; ; x = X {}", "for ; ; c <- X {}", "switch X {}", "if y {} else if X {}", "if a + -X {}", "if func() { if X {} }() {}", "if (func() { for X {} }) {}"}
	for _, head := range heads {
		at := strings.Index(head, "X")
		for _, operand := range []string{"&T{}", "[]int{}", "[]int{1}[0]", "&T{}.f"} {
			wantBroken(t, strings.Replace(head, "X", operand, 1), at)
		}
		for _, within := range []string{"(&T{})", "([]int{})", "f(&T{})", "f(1, []int{})", "x[&T{}]", "x[:[]int{}]", "x[&T{}:]", "len([]int{})", "make([]int, &T{})", "func() { x = &T{} }", "func() { x = []int{} }", "func(a []int) []int { return []int{} }(&T{})", "([]int{[]int{}, &T{a: &T{}}})", "(-&T{})", "x[([]int{}[0])]"} {
			src := "func f(){" + strings.Replace(head, "X", within, 1) + "}"
			if _, fault := Parse(src); fault != (api.Fault{}) {
				t.Errorf("%s: %v", src, fault)
			}
		}
		// Behind the parenthesis, the bracket or the block the head's rule holds again.
		for _, ahead := range []string{"(&T{}) + ", "f(&T{}) + ", "x[&T{}] + ", "func() { x = &T{} } == ", "len([]int{}) + "} {
			wantBroken(t, strings.Replace(head, "X", ahead+"&T{}", 1), at+len(ahead))
		}
	}
	for _, head := range []string{"switch { case X: }", "switch { case 1, X: }", "select { case X <- 1: }", "select { case <-X: }", "select { case v := <-X: }", "select { case c <- X: }", "if y { x = X }", "for { x = X }", "go X()", "return X", "x = X", "X.f++"} {
		for _, operand := range []string{"&T{}", "[]int{1,}"} {
			if _, fault := Parse("func f(){" + strings.Replace(head, "X", operand, 1) + "}"); fault != (api.Fault{}) {
				t.Errorf("%s, %s: %v", head, operand, fault)
			}
		}
	}
	wantBroken(t, "for &T{}.f = 1;;{}", 4)
	wantBroken(t, "for ;; []int{}[0]++ {}", 7)
}

func TestFirstFaults(t *testing.T) {
	for src, at := range map[string]int{
		"func": 4, "func\n": 5, "type": 4, "var": 3, "var x": 5, "var x\n": 5, "func f()": 8, "func f() {": 10, "func f() {\n": 11, "func f() { }": -1, "func f() { } }": 13, ";": 0, "var x int;;": 10, "}": 0, "1": 0, "x": 0,
		"var x int = 1": 10, "var x T": 6, "var x *int": 7, "var x [1]int": 7, "var x []": 8, "var x chan": 10, "var x func": 10, "var x func(a int)": 11, "var x func(int,)": 15, "var x func(,)": 11, "var 1 int": 4, "var x int var y int": 10,
		"type T int": 7, "type T struct": 13, "type T struct { a }": 18, "type T struct { a int, b int }": 21, "type T struct { a int }": 22, "type T struct { ; }": 16, "type T struct { a int;; }": 22, "type int struct { }": 5,
		"func f(a) { }": 8, "func f(a int,) { }": 13, "func f(int) { }": 7, "func f(a, b int) { }": 8, "func f() int, int { }": 12, "func f() (int) { }": 9, "func f()\n{ }": 8, "func (f) { }": 5, "func f() { } func g() { }": 13, "func f { }": 7, "func f[]() { }": 6,
	} {
		if at < 0 {
			wantTree(t, src, "File(FuncDecl'f(Params@6 none Block@9))")
			continue
		}
		wantFault(t, src, api.Syntax, at)
	}
	for stmts, at := range map[string]int{
		"-x": 0, "!x": 0, "x": 1, "1": 1, "x y": 2, "f() g()": 4, "f()\n)": 4, "]": 0, "a + b": 2, "<-c + 1": 4, "<-c = 1": 4, "<-c <- 1": 4, "<-c++": 3, "var x = 1": 6, "var x": 5, "var x int := 1": 10, "type T struct { }": 0, "func g() { }": 5,
		"x := ": 5, "x = ": 4, "x +=": 4, "x /= 2": 2, "x = y = z": 6, "x := y := z": 7, "x++ + 1": 4, "++x": 0, "x, y = 1, 2": 1, "x = 1, 2": 5,
		"L:": 2, "L: x = 1": 3, "L: if x { }": 3, "L: { }": 3, "L: M: for { }": 3, "L:\nfor { }; M: }": 15, "break 1": 6, "break for": 6, "break L M": 8, "continue L.x": 10, "fallthrough L": 12, "return case": 7, "return 1, 2": 8, "return return": 7, "go": 2, "go -f()": 3, "go <-f()": 3, "defer !f()": 6, "go f() + 1": 7, "defer defer f()": 6, "go x := 1": 5, "case 1:": 0, "default:": 0, "else { }": 0,
		"if { }": 3, "if x": 4, "if x\n{ }": 4, "if x { } else": 13, "if x { } else x()": 14, "if x { }\nelse { }": 9, "if x := 1; x { }": 5, "if x = 1 { }": 5, "if x; { }": 4, "if x { } else if { }": 17, "if x { } else for { }": 14,
		"for x := 1 { }": 11, "for x = 1 { }": 10, "for x++ { }": 8, "for c <- 1 { }": 11, "for a; { }": 5, "for a; ; { }": 5, "for a + b; ; { }": 9, "for -f(); ; { }": 8, "for (f()); ; { }": 9, "for <-c + 1; ; { }": 11, "for ; { }": 6, "for ; ; ; { }": 8, "for ; x { }": 8, "for ; x := 1; { }": 8, "for ; ; x { }": 10, "for ; ; x + y { }": 10, "for ; ; -x { }": 8, "for ; ; <-c + 1 { }": 12, "for ; ; x := 1; { }": 14, "for i := 0; i < 3; i++\n{ }": 22, "for x: { }": 5, "for x range y { }": 6, "for var x int; ; { }": 4, "for\n;;\n{ }": -1,
		"switch x": 8, "switch x { x }": 11, "switch { case: }": 13, "switch { case 1, : }": 17, "switch { case 1 }": 16, "switch { case 1; }": 15, "switch { default 1: }": 17, "switch { ; }": 9, "switch x := 1 { }": 9, "switch x; y { }": 8, "switch { case x := 1: }": 16, "switch { case 1: case }": 22, "switch { x = 1 }": 9, "switch { case 1: } }": 20,
		"select x { }": 7, "select { case x: }": 15, "select { case x = <-c: }": 16, "select { case x := c: }": 19, "select { case (x) := <-c: }": 18, "select { case x.y := <-c: }": 18, "select { case <-c + 1: }": 18, "select { case <-c <- 1: }": 18, "select { case f(): }": 17, "select { case -c <- 1: }": 14, "select { case: }": 13, "select { case <-: }": 16, "select { case x <- 1, 2: }": 20, "select { default: case }": 23, "select { x() }": 9, "select { case <-c, <-d: }": 17,
		"x = 1 +": 7, "x = + 1": 4, "x = a <- b": 6, "x = a && || b": 9, "x = a == b ==": 13, "x = (": 5, "x = ()": 5, "x = (1": 6, "x = (1, 2)": 6, "x = (y = 1)": 7, "x = a b": 6, "x = a(": 6, "x = a(,)": 6, "x = a(1,)": 8, "x = a(1": 7, "x = a(1 2)": 8, "x = a(b...)": 8, "x = a(\n1\n)": 8, "x = a[]": 6, "x = a[1": 7, "x = a[1,2]": 7, "x = a[1:2:3]": 9, "x = a[::]": 7, "x = a[1;]": 7, "x = a.": 6, "x = a.1": 6, "x = a.len": 6, "x = a.(int)": 6, "x = T{}": 5,
		"x = &": 5, "x = &T": 6, "x = &y.z": 6, "x = &(T{})": 5, "x = &T{": 8, "x = &T{,}": 7, "x = &T{1}": 7, "x = &T{a}": 8, "x = &T{a: 1": 12, "x = &T{a: 1,,}": 12, "x = &T{a: 1\n}": 11, "x = &T{a: }": 10, "x = &int{}": 5,
		"x = []": 6, "x = []int": 9, "x = []int{": 11, "x = []int{,}": 10, "x = []int{1,,}": 12, "x = []int{1 2}": 12, "x = []int{1,\n2\n}": 14, "x = [1]int{}": 5, "x = [int": 5, "x = []T{}": 6, "x = []int(1)": 9,
		"x = func": 8, "x = func g() { }": 9, "x = func()": 10, "x = func() int": 14, "x = func(int) { }": 9, "x = func() { ": 14, "x = make": 8, "x = make()": 9, "x = make(1)": 9, "x = make(int, 1, 2)": 15, "x = make(int,)": 13, "x = make(T)": 9, "x = new": 7, "x = new()": 8, "x = new(int)": 8, "x = new(T, 1)": 9, "x = new(*T)": 8, "x = len": 7, "x = len x": 8, "x = print(1,)": 12, "len = 1": 4, "print := 1": 6, "x = int": 4, "x = int(1)": 4, "x = struct": 4, "x = type": 4, "x = chan int": 4, "x = *y": 4, "x = recover.y": 11,
	} {
		if at < 0 {
			if _, fault := Parse("func f(){" + stmts + "}"); fault != (api.Fault{}) {
				t.Errorf("%q: %v", stmts, fault)
			}
			continue
		}
		wantBroken(t, stmts, at)
	}
}

func TestFaultsOfLayer1(t *testing.T) {
	wantFault(t, "12a", api.Lexical, 2)
	wantFault(t, "x := ) #", api.Lexical, 7)
	wantFault(t, strings.Repeat("x", api.MaxSource+1), api.TooBig, api.MaxSource)
	wantFault(t, strings.Repeat("(", api.MaxNest+1), api.TooDeep, api.MaxNest)
	wantFault(t, "x "+strings.Repeat("(", api.MaxNest), api.Syntax, 0)
}

// TestAnyBytes: whatever two bytes stand where an expression may, there is a tree or a fault, and never both.
func TestAnyBytes(t *testing.T) {
	for a := range 256 {
		for b := range 256 {
			for _, behind := range []string{"", "}"} {
				src := "func f(){x=" + string([]byte{byte(a), byte(b)}) + behind
				tree, fault := Parse(src)
				isTree, isFault := tree.Kind == api.NFile, fault.Stage != 0
				if isTree == isFault || fault.At < 0 || fault.At > len(src) || isFault && !reflect.DeepEqual(tree, api.Node{}) {
					t.Fatalf("%q: %v %s", src, fault, show(tree))
				}
			}
		}
	}
}

func TestDeepest(t *testing.T) {
	open, closed := strings.Repeat("(", api.MaxNest-1), strings.Repeat(")", api.MaxNest-1)
	wantStmts(t, "x="+open+"y"+closed, "Assign'=@10(name'x@9 name'y@"+strconv.Itoa(11+api.MaxNest-1)+")")
	wantFault(t, "func f(){x=("+open+"y)"+closed+"}", api.TooDeep, 11+api.MaxNest-1)
	blocks := strings.Repeat("{", api.MaxNest-1) + strings.Repeat("}", api.MaxNest-1)
	if _, fault := Parse("func f(){" + blocks + "}"); fault != (api.Fault{}) {
		t.Error(fault)
	}
	indexes := "x" + strings.Repeat("[x", api.MaxNest-1) + strings.Repeat("]", api.MaxNest-1) + "=1"
	if _, fault := Parse("func f(){" + indexes + "}"); fault != (api.Fault{}) {
		t.Error(fault)
	}
}

// TestLongest parses sources of MaxSource bytes whose parts nest without brackets.
func TestLongest(t *testing.T) {
	fill := func(ahead, part, behind string) string {
		n := (api.MaxSource - len(ahead) - len(behind)) / len(part)
		return ahead + strings.Repeat(part, n) + behind
	}
	for _, src := range []string{
		fill("func f(){x=", "!", "y}"), fill("func f(){x=", "y+", "y}"), fill("func f(){x=y", ".z", "}"), fill("func f(){x=y", "()", "}"),
		fill("var x ", "[]", "int"), fill("var x ", "chan ", "int"), fill("var x ", "func()", ""), fill("func f(){", "if x{}else ", "{}}"), fill("func f(){", ";", "}"), fill("", "var x int\n", ""), fill("func f(){x=", "<-", "y}"), fill("func f(){print(", "1,", "1)}"),
	} {
		tree, fault := Parse(src)
		if fault != (api.Fault{}) {
			t.Errorf("%.30q: %v", src, fault)
		}
		if !reflect.DeepEqual(show(Bare(Bare(tree))), show(Bare(tree))) {
			t.Errorf("%.30q: bare twice is another tree", src)
		}
	}
	wantFault(t, strings.Repeat("!", api.MaxSource), api.Syntax, 0)
	at := len("func f(){x=") + 8000
	wantFault(t, "func f(){x="+strings.Repeat("!", 8000), api.Syntax, at)
}

// TestListsApart changes each list of an answer up to its capacity: nothing else may change.
func TestListsApart(t *testing.T) {
	src := "type T struct {a int;b int;c int;}\nfunc f(a int,b int,c int)int{x=g(1,2,3);switch x{case 1,2,3:y();z();default:};select{case v:=<-c:};for i:=0;i<3;i++{};x=[]int{1,2,3};x=&T{a:1,b:2,c:3};var g func(int,int)int=h;if a{}else{}}\n"
	tree, fault := Parse(src)
	if fault != (api.Fault{}) {
		t.Fatal(fault)
	}
	again, _ := Parse(src)
	checkApart(t, &tree, map[*api.Node]bool{})
	bare := Bare(tree)
	checkApart(t, &bare, map[*api.Node]bool{})
	scribble(&bare)
	if show(tree) != show(again) {
		t.Error("the tree changed with its bare one")
	}
	scribble(&tree)
	if third, _ := Parse(src); show(again) != show(third) {
		t.Error("an answer changed with another")
	}
}

// checkApart finds an item of one list, spare room too, in another.
func checkApart(t *testing.T, n *api.Node, seen map[*api.Node]bool) {
	t.Helper()
	whole := n.Kids[:cap(n.Kids)]
	for i := range whole {
		if seen[&whole[i]] {
			t.Fatal("two lists share memory at", show(*n))
		}
		seen[&whole[i]] = true
	}
	for i := range n.Kids {
		checkApart(t, &n.Kids[i], seen)
	}
}

func scribble(n *api.Node) {
	for i := range n.Kids {
		scribble(&n.Kids[i])
		n.Kids[i] = api.Node{Kind: -1, Text: "scribbled"}
	}
}

func TestBare(t *testing.T) {
	if got := Bare(api.Node{}); got.Kind != 0 || len(got.Kids) != 0 {
		t.Error(show(got))
	}
	odd := api.Node{Kind: -7, Text: "t", Num: -3, At: 5, Type: "int", Ref: 2, Kids: []api.Node{
		{Kind: api.EInt, Num: 9, At: -1, Type: "x", Ref: -4, Kids: []api.Node{{Kind: 999, Text: "\xff", At: 1 << 40}}},
		{Kind: api.NNone, At: 3, Ref: 1},
		{},
	}}
	kept := evenLists(odd)
	want := api.Node{Kind: -7, Text: "t", Num: -3, Kids: []api.Node{
		{Kind: api.EInt, Num: 9, Kids: []api.Node{{Kind: 999, Text: "\xff"}}},
		{Kind: api.NNone},
		{},
	}}
	if got := Bare(odd); !reflect.DeepEqual(evenLists(got), want) {
		t.Errorf("%s, not %s", show(got), show(want))
	}
	if !reflect.DeepEqual(odd, kept) {
		t.Error("what was handed in changed")
	}
	for kind := range 60 {
		n := api.Node{Kind: kind, Text: "a", Num: 4, At: 1, Type: "b", Ref: 3, Kids: []api.Node{{Kind: kind, At: 1, Type: "c", Ref: 1}}}
		want := api.Node{Kind: kind, Text: "a", Num: 4, Kids: []api.Node{{Kind: kind}}}
		if got := Bare(n); !reflect.DeepEqual(evenLists(got), want) {
			t.Error(kind, show(got))
		}
	}
}

// TestBareOfSpareRoom: what stands behind a list's length is neither read nor changed.
func TestBareOfSpareRoom(t *testing.T) {
	room := []api.Node{{Kind: api.TInt, At: 4}, {Kind: api.TBool, At: 5}}
	got := Bare(api.Node{Kind: api.TSlice, Kids: room[:1]})
	if show(got) != "Slice(Int)" || room[1].Kind != api.TBool || room[1].At != 5 || room[0].At != 4 {
		t.Error(show(got), room)
	}
}

func TestBareOfDeepTree(t *testing.T) {
	deep := api.Node{Kind: api.ENil, At: 1}
	for range 1<<16 - 1 {
		deep = api.Node{Kind: api.EUnary, Text: "!", At: 1, Kids: []api.Node{deep}}
	}
	n := Bare(deep)
	levels := 1
	for ; len(n.Kids) == 1; n = n.Kids[0] {
		if n.At != 0 || n.Text != "!" {
			t.Fatal(levels, n.At)
		}
		levels++
	}
	if levels != 1<<16 || n.Kind != api.ENil || n.At != 0 {
		t.Error(levels, n.Kind, n.At)
	}
}

// TestWrapping: the place is found in the wrapping, and the wrapping says the rule.
func TestWrapping(t *testing.T) {
	p := parser{tokens: []api.Token{{Kind: api.End, At: 3}}}
	err := p.broken("operand")
	var place unexpected
	if !errors.As(err, &place) || place.at != 3 || err.Error() != "operand: nothing goes on at 3" {
		t.Error(err)
	}
}

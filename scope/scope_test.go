package scope

import (
	"fmt"
	"reflect"
	"slices"
	"strings"
	"testing"

	"cloister/api"
	"cloister/parse"
	"cloister/tree"
)

// house stands ahead of procedures: channels of both types, both ways.
const house = "chief a; chief b; acts a b; in i: int {a:}; in j: bool {}; out o: int {a:b}; out p: bool {}; "

// P6.1

func TestRight(t *testing.T) {
	for _, s := range []string{
		"proc main() { }",
		"proc main() begin {a:b;b:} for a, b, a { }",
		"proc main() { var x = 1; var y {} = true; var z {a:b} = x; x = z; y = x == z; }",
		"proc main() { send o 1; send p true; }",
		"proc main() { var x = 0; var y = false; take x i; take y j; }",
		"proc main() { if true { } else { } while 1 < 2 { } }",
		"proc main() { do main(); }",
		"proc main() { do f(1, true); do g(); } proc f(x: int {}, y: bool {a:}) { } proc g(): int {a:} { return 1; }",
		"proc f(x: int {}): bool {} { return x == 0; } proc main() { var y = f(1); send p f(2) && y; }",
		"proc f(x: int {}): int {} { x = g(x); return x; } proc g(x: int {}): int {} { return f(x); } proc main() { }",
		// What a Let made is there to the end of its block, and in all within.
		"proc main() { if true { var x = 1; } var x = true; if x { x = false; while x { x = x; } } }",
		"proc main() { if true { var x = 1; x = 2; } else { var x = true; x = false; } var x = 1; }",
		"proc main() { while true { var x = 1; if true { send o x; } } while true { var x = false; send p x; } }",
		"proc f(x: int {}) { } proc main() { var x = true; var f = 1; var main = f; do f(main); }",
		"proc f() { var x = 1; } proc main() { var x = true; send p x; }",
		// Names of one kind aren't those of another.
		"proc main() { var i = 1; var o = i; take i i; send o o; } proc i() { } proc o(): int {} { return 1; } proc a(a: int {}, o: int {}) for a { send o o + a; }",
		"proc f(f: int {}): int {} { return f; } proc main() { var g = f(1); }",
		"proc main() { var x = release(1 to {a:}); var y {b:} = release(x == 1 to {a:b;b:}); y = y; }",
	} {
		checked(t, s, read(t, house+s), api.Fault{})
	}
	checked(t, "no chief", prog(), api.Fault{})
}

func TestHeads(t *testing.T) {
	const main = " proc main() { }"
	for _, c := range []struct {
		s    string
		want api.Errno
	}{
		{"chief a; chief a;" + main, api.ErrTwice},
		{"chief a; acts a b;" + main, api.ErrWho},
		{"chief a; acts b a;" + main, api.ErrWho},
		{"in i: int {}; @in i: int {};" + main, api.ErrTwice},
		{"in i: int {}; out o: int {}; @out i: bool {};" + main, api.ErrTwice},
		{"in i: int {}; @in i: int {}; in i: bool {};" + main, api.ErrTwice},
		{"chief a; in i: int {a:}; @out o: int {b:};" + main, api.ErrWho},
		{"chief a; @in i: int {a:b};" + main, api.ErrWho},
		{"chief a; @in i: int {a:;a:a,A};" + main, api.ErrWho},
		{"proc f() { } @proc f() { }" + main, api.ErrTwice},
		{"proc main() { } proc f() { } @proc main() { }", api.ErrTwice},
		{"@proc f(x: int {}, x: bool {}) { }" + main, api.ErrTwice},
		{"@proc f(x: int {}, y: int {}, z: int {}, y: int {}) { }" + main, api.ErrTwice},
		{"@proc f(x: int {a:}) { }" + main, api.ErrWho},
		{"chief a; @proc f(x: int {a:}, y: int {a:b}) { }" + main, api.ErrWho},
		{"@proc f(): int {a:} { return 1; }" + main, api.ErrWho},
		{"@proc f() begin {a:} { }" + main, api.ErrWho},
		{"chief a; @proc f() for b { }" + main, api.ErrWho},
		{"chief a; @proc f() for a, b { }" + main, api.ErrWho},
		{"chief a; @proc f() for f { }" + main, api.ErrWho},
		{"", api.ErrWho},
		{"chief main; out main: int {};", api.ErrWho},
		{"proc Main() { } proc f() { }", api.ErrWho},
		{"@proc main(x: int {}) { }", api.ErrForm},
		{"proc f() { } @proc main(): int {} { return 1; }", api.ErrForm},
		{"@proc main(x: bool {}): int {} { return 1; }", api.ErrForm},
	} {
		s, at := marked(c.s)
		checked(t, c.s, read(t, s), api.Fault{Code: c.want, At: at})
	}
}

func TestStatements(t *testing.T) {
	for _, c := range []struct {
		s    string
		want api.Errno
	}{
		{"@var x {z:} = 1;", api.ErrWho},
		{"@var x {a:z} = 1;", api.ErrWho},
		{"var x = @y;", api.ErrWho},
		{"var x = @x;", api.ErrWho},
		{"var x = 1; @var x = 2;", api.ErrTwice},
		{"var x = 1; @var x = true;", api.ErrTwice},
		{"var x = 1; @var x = x;", api.ErrTwice},
		{"var x = 1; if true { @var x = 1; }", api.ErrTwice},
		{"if true { var x = 1; while true { if true { } else { @var x = 1; } } }", api.ErrTwice},
		{"var x = 1; var y = 1; var z = 1; @var y = 1;", api.ErrTwice},
		{"@x = 1;", api.ErrWho},
		{"@o = 1;", api.ErrWho},
		{"@main = 1;", api.ErrWho},
		{"var x = 1; x = @true;", api.ErrType},
		{"var x = true; x = @1;", api.ErrType},
		{"var x = 1; x = x @< 1;", api.ErrType},
		{"var x = 1; x = @y;", api.ErrWho},
		{"@x = 1; var x = 1;", api.ErrWho},
		{"if true { var x = 1; } @x = 1;", api.ErrWho},
		{"if true { var x = 1; } else { @x = 1; }", api.ErrWho},
		{"while true { var x = 1; } @x = 1;", api.ErrWho},
		{"if true { if true { var x = 1; } @x = 1; }", api.ErrWho},
		{"if true { if true { var x = 1; } } else { @x = 1; }", api.ErrWho},
		{"if @x { var x = true; }", api.ErrWho},
		{"@send q 1;", api.ErrWho},
		{"@send i 1;", api.ErrWho},
		{"var q = 1; @send q 1;", api.ErrWho},
		{"send o @true;", api.ErrType},
		{"send p @1;", api.ErrType},
		{"send o @y;", api.ErrWho},
		{"@take x i;", api.ErrWho},
		{"@take i i;", api.ErrWho},
		{"var x = 1; @take x o;", api.ErrWho},
		{"var x = 1; @take x q;", api.ErrWho},
		{"var x = 1; @take x x;", api.ErrWho},
		{"var x = 1; @take x j;", api.ErrType},
		{"var x = true; @take x i;", api.ErrType},
		{"if @1 { }", api.ErrType},
		{"while @1 { }", api.ErrType},
		{"if @x { }", api.ErrWho},
		{"while @x { }", api.ErrWho},
		{"if 1 @+ 1 { }", api.ErrType},
		{"do @nobody();", api.ErrWho},
		{"do @o();", api.ErrWho},
		{"do @main(1);", api.ErrForm},
		{"do @two(1);", api.ErrForm},
		{"do @two();", api.ErrForm},
		{"do @two(1, true, 1);", api.ErrForm},
		{"do two(@true, true);", api.ErrType},
		{"do two(1, @1);", api.ErrType},
		{"do two(@x, true);", api.ErrWho},
		{"do two(@none(), true);", api.ErrType},
		{"@return 1;", api.ErrForm},
		{"@return x;", api.ErrForm},
		{"if true { @return 1; }", api.ErrForm},
	} {
		s, at := marked(house + "proc none() { } proc two(n: int {}, m: bool {}): int {} { return n; } proc main() { " + c.s + " }")
		checked(t, c.s, read(t, s), api.Fault{Code: c.want, At: at})
	}
}

func TestReturns(t *testing.T) {
	for _, c := range []struct {
		s    string
		want api.Errno
	}{
		{"proc f(): int {} { return 1; }", api.OK},
		{"proc f(): bool {} { var x = true; return x; }", api.OK},
		{"@proc f(): int {} { }", api.ErrForm},
		{"@proc f(): int {} { var x = 1; }", api.ErrForm},
		{"proc f(): int {} { if true { @return 1; } }", api.ErrForm},
		{"proc f(): int {} { if true { } else { @return 1; } return 1; }", api.ErrForm},
		{"proc f(): int {} { while true { @return 1; } return 1; }", api.ErrForm},
		{"proc f(): int {} { @return 1; return 1; }", api.ErrForm},
		{"proc f(): int {} { @return 1; var x = 1; }", api.ErrForm},
		{"proc f(): int {} { return @true; }", api.ErrType},
		{"proc f(): bool {} { return @1; }", api.ErrType},
		{"proc f(): int {} { return @x; }", api.ErrWho},
		{"proc f(): int {} { @return true; return 1; }", api.ErrForm},
		{"proc f() { @return 1; }", api.ErrForm},
		{"proc f() { @return x; }", api.ErrForm},
		// Of a procedure its statements come first, and then those of the next one.
		{"@proc f(): int {} { } proc g() { x = 1; }", api.ErrForm},
		{"proc f(): int {} { @x = 1; } proc g() { x = 1; }", api.ErrWho},
		{"proc g() { @x = 1; } proc f(): int {} { }", api.ErrWho},
	} {
		s, at := marked(c.s + " proc main() { }")
		checked(t, c.s, read(t, s), api.Fault{Code: c.want, At: at})
	}
}

// TestOrder: where two are wrong, the first is told.
func TestOrder(t *testing.T) {
	for _, c := range []struct {
		s    string
		want api.Errno
	}{
		{"acts a z; chief a; in i: int {y:}; proc main() { }", api.ErrWho},
		{"chief a; chief a; in i: int {}; in i: int {}; proc main() { }", api.ErrTwice},
		{"in i: int {}; @in i: int {z:}; proc main() { }", api.ErrTwice},
		{"@in i: int {z:}; in i: int {}; proc main() { }", api.ErrWho},
		{"proc f() for z { } proc f() { } in i: int {}; @in i: int {};", api.ErrTwice},
		{"proc f() { } @proc f(x: int {}, x: int {}) for z { }", api.ErrTwice},
		{"@proc f() for z { } proc f() { }", api.ErrWho},
		{"@proc f(x: int {z:}, x: int {}) { }", api.ErrWho},
		{"@proc f(x: int {}, x: int {z:}) { }", api.ErrTwice},
		{"proc f() { x = 1; } @proc g() for z { }", api.ErrWho},
		{"proc f() { x = 1; } @proc f() { } proc f() { }", api.ErrTwice},
		{"proc g() { @x = 1; } proc f() { y = 1; }", api.ErrWho},
		{"proc g(): int {} { @x = 1; }", api.ErrWho},
		{"proc main(x: int {}): int {} { var x = @y; }", api.ErrWho},
		{"@proc main(x: int {}): int {} { }", api.ErrForm},
		{"proc main(x: int {}) { } @proc f(): int {} { }", api.ErrForm},
		{"proc f() { if @x { y = 1; } z = 1; }", api.ErrWho},
		{"proc f() { if @1 { y = 1; } }", api.ErrType},
		{"proc f() { if true { @y = 1; } else { x = 1; } }", api.ErrWho},
		{"proc f() { while true { if true { } else { @y = 1; } } x = 1; }", api.ErrWho},
		{"proc f() { while true { while @1 { } x = 1; } x = 1; }", api.ErrType},
		{"proc f() { @var x {z:} = y; }", api.ErrWho},
		{"proc f(x: int {}) { var x = @y; }", api.ErrWho},
		{"proc f(x: int {}) { @var x {z:} = 1; }", api.ErrWho},
		{"proc f() { @x = y; }", api.ErrWho},
		{"proc f() { @send x y; }", api.ErrWho},
		{"in i: int {}; proc f() { var x = true; @take x i; take y i; }", api.ErrType},
		{"in i: int {}; proc f() { @take y i; }", api.ErrWho},
	} {
		s, at := marked(c.s)
		checked(t, c.s, read(t, s), api.Fault{Code: c.want, At: at})
	}
}

// TestWhichComesFirst lays all faults of a program into one, and mends them one after the other: each is told when those ahead are mended.
func TestWhichComesFirst(t *testing.T) {
	steps := []struct {
		wrong, right string
		want         api.Errno
	}{
		{"chief d; chief d;", "chief d;", api.ErrTwice},
		{"acts z a;", "", api.ErrWho},
		{"in i: int {a:}; in j: bool {}; out o: int {}; @in o: int {};", "in i: int {a:}; in j: bool {}; out o: int {};", api.ErrTwice},
		{"@in k: int {z:};", "", api.ErrWho},
		{"proc f() { } @proc f() { }", "proc f() { }", api.ErrTwice},
		{"@proc g(n: int {z:}): int {} {", "proc g(n: int {}): int {} {", api.ErrWho},
		{"@var v {z:} = 1; return n; }", "return n; }", api.ErrWho},
		{"proc e(x: int {}) { var y = @z;", "proc e(x: int {}) {", api.ErrWho},
		{"@var x = 1;", "", api.ErrTwice},
		{"@z = true;", "", api.ErrWho},
		{"x = @false;", "", api.ErrType},
		{"@send z 1;", "", api.ErrWho},
		{"send o @false;", "", api.ErrType},
		{"@take z i;", "", api.ErrWho},
		{"@take x o;", "", api.ErrWho},
		{"@take x j;", "", api.ErrType},
		{"if @2 {", "if true {", api.ErrType},
		{"do @z(); }", "}", api.ErrWho},
		{"else { do @g(); }", "", api.ErrForm},
		{"do g(@true);", "", api.ErrType},
		{"x = @f();", "", api.ErrType},
		{"x = @release(q to {z:});", "", api.ErrWho},
		{"@return 3; }", "}", api.ErrForm},
		{"@proc l(): int {} { }", "", api.ErrForm},
		{"@proc main(y: int {}) { }", "proc main() { }", api.ErrForm},
	}
	for i, c := range steps {
		s := "chief a;"
		for j, piece := range steps {
			switch {
			case j < i:
				s += " " + piece.right
			case j == i:
				s += " " + piece.wrong
			case j > i:
				s += " " + strings.Replace(piece.wrong, "@", "", 1)
			}
		}
		text, at := marked(s)
		checked(t, c.wrong, read(t, text), api.Fault{Code: c.want, At: at})
	}
}

// TestTreeFirst: what chapters 4 and 2 tell comes first, at 0.
func TestTreeFirst(t *testing.T) {
	wrong := func() api.Program {
		p := read(t, "chief a; chief a; in i: int {z:}; in i: int {}; proc f() for z { x = 1; }")
		for i := range p.Chans {
			p.Chans[i].At = 7 + i
		}
		return p
	}
	checked(t, "as it is", wrong(), api.Fault{Code: api.ErrTwice})
	for what, change := range map[string]func(*api.Program){
		"chiefs":        func(p *api.Program) { p.Chiefs = make([]string, api.MaxChiefs+1) },
		"acts":          func(p *api.Program) { p.Acts = make([][2]string, api.MaxActs+1) },
		"channels":      func(p *api.Program) { p.Chans = make([]api.Chan, api.MaxChans+1) },
		"procedures":    func(p *api.Program) { p.Procs = make([]api.Proc, api.MaxProcs+1) },
		"no name":       func(p *api.Program) { p.Chiefs = []string{"a", "if"} },
		"no channel":    func(p *api.Program) { p.Chans[1].Type = api.None },
		"Params":        func(p *api.Program) { p.Procs[0].Params = make([]api.Param, api.MaxParams+1) },
		"no Param":      func(p *api.Program) { p.Procs[0].Params = []api.Param{{Name: "x"}} },
		"no Result":     func(p *api.Program) { p.Procs[0].Result.Name = "x" },
		"no statement":  func(p *api.Program) { p.Procs[0].Body[0].Kind = 9 },
		"no expression": func(p *api.Program) { p.Procs[0].Body[0].E.Kind = 0 },
		"no number":     func(p *api.Program) { p.Procs[0].Body[0].E.N = -1 },
		"no label":      func(p *api.Program) { p.Procs[0].Begin = api.Label{{}} },
	} {
		p := wrong()
		change(&p)
		code := tree.Check(p)
		if code == api.OK {
			t.Fatalf("%s: it has a form", what)
		}
		checked(t, what, p, api.Fault{Code: code})
	}
	checked(t, "nothing", api.Program{}, api.Fault{Code: api.ErrWho})
}

// TestDeep: variables are there as deep as statements may lie.
func TestDeep(t *testing.T) {
	for deep := 1; deep < api.MaxDeep; deep++ {
		open, shut := strings.Repeat("if true { ", deep), strings.Repeat("} ", deep)
		for s, want := range map[string]api.Errno{
			"var x = 1; " + open + "x = 2; " + shut:         api.OK,
			"var x = 1; " + open + "x = @true; " + shut:     api.ErrType,
			"var x = 1; " + open + "@var x = 1; " + shut:    api.ErrTwice,
			open + "var x = 1; x = 2; " + shut:              api.OK,
			open + "var x = 1; " + shut + "var x = true; ":  api.OK,
			open + "var x = 1; " + shut + "var x = @x; ":    api.ErrWho,
			open + "var x = 1; x = @y; " + shut + "z = 1; ": api.ErrWho,
			open + "@return 1; " + shut:                     api.ErrForm,
		} {
			text, at := marked("proc main() { " + s + "}")
			checked(t, s, read(t, text), api.Fault{Code: want, At: at})
		}
	}
}

// TestMade holds Check against a teller that tells all that is wrong.
func TestMade(t *testing.T) {
	got := map[api.Errno]int{}
	for i := range 12000 {
		m := &maker{thrower: dice(i), slips: []int{1000000, 300, 100, 30}[i%4]}
		p := m.program()
		f := Check(p)
		if want := first(p); f != want {
			s, _ := tree.Print(p)
			t.Fatalf("%d: %v, want %v: %s", i, f, want, s)
		}
		got[f.Code]++
	}
	for _, code := range []api.Errno{api.OK, api.ErrForm, api.ErrWho, api.ErrTwice, api.ErrType} {
		if got[code] < 300 {
			t.Errorf("%d: %d of them", code, got[code])
		}
	}
}

// TestChanged changes all that is in programs, one thing after the other, and holds Check against a teller.
func TestChanged(t *testing.T) {
	count := 0
	for _, s := range []string{
		"proc f(x: int {a:}, y: bool {}): bool {b:} begin {a:b} for a, b { if y { x = -x; } return x == 1; } proc main() { var x = 1; send p f(x, true); }",
		"proc f() { var x {a:b} = 1; var y = !true; while y && x < 3 { take x i; if y { var z = release(x + 1 to {b:}); x = z; } else { take y j; var z = 1; } do f(); } send o x; } proc main() { do f(); }",
	} {
		p := read(t, house+s)
		eachChange(reflect.ValueOf(&p).Elem(), func() {
			count++
			if got, want := Check(p), first(p); got != want {
				text, _ := tree.Print(p)
				t.Errorf("%v, want %v: %s", got, want, text)
			}
		})
		checked(t, "changed back", p, api.Fault{})
	}
	if count < 1000 {
		t.Errorf("%d changes", count)
	}
}

// TestShared: a list that lies in many places is looked at where each time other variables are there.
func TestShared(t *testing.T) {
	at := func(s api.Stmt) api.Stmt {
		s.At, s.E.At = 5, 6
		return s
	}
	number, truth := let("x", num(1)), let("x", bit(1))
	setX := []api.Stmt{at(set("x", num(2)))}
	makeX := []api.Stmt{at(let("x", num(2)))}
	copyX := []api.Stmt{at(let("y", v("x")))}
	askX := []api.Stmt{at(let("z", op("==", v("x"), v("x"))))}
	useY := []api.Stmt{copyX[0], at(set("y", num(1)))}
	who, twice, kind := api.Fault{Code: api.ErrWho, At: 5}, api.Fault{Code: api.ErrTwice, At: 5}, api.Fault{Code: api.ErrType, At: 6}
	for _, c := range []struct {
		what string
		l    []api.Stmt
		want api.Fault
	}{
		{"set twice", []api.Stmt{number, when(setX...), when(setX...)}, api.Fault{}},
		{"set where it isn't", []api.Stmt{when(number, when(setX...)), when(setX...)}, who},
		{"set where it is of another type", []api.Stmt{when(number, when(setX...)), when(truth, when(setX...))}, kind},
		{"set deeper where it is of another type", []api.Stmt{when(number, when(when(setX...))), when(truth, when(when(setX...)))}, kind},
		{"made twice", []api.Stmt{when(makeX...), when(makeX...)}, api.Fault{}},
		{"made where it is", []api.Stmt{when(makeX...), number, when(makeX...)}, twice},
		{"made deeper where it is", []api.Stmt{when(when(makeX...)), number, when(when(makeX...))}, twice},
		{"made where it is of another type", []api.Stmt{when(makeX...), truth, when(makeX...)}, twice},
		{"asked of both types", []api.Stmt{when(number, when(askX...)), when(truth, when(askX...)), when(number, when(askX...))}, api.Fault{}},
		{"asked where it isn't", []api.Stmt{when(number, when(askX...)), when(askX...)}, api.Fault{Code: api.ErrWho}},
		{"used where it is of another type", []api.Stmt{when(number, when(useY...)), when(truth, when(useY...))}, kind},
		{"a piece of what was right", []api.Stmt{when(number, when(useY...)), when(useY[1:]...)}, who},
		{"more than a piece of what was right", []api.Stmt{when(truth, when(useY[:1]...)), when(truth, when(useY...))}, kind},
		{"one within, in two that lie in others", []api.Stmt{
			when(number, api.Stmt{Kind: api.While, E: bit(1), A: []api.Stmt{when(askX...), when(setX...)}}),
			when(truth, api.Stmt{Kind: api.If, E: bit(1), A: askX, B: setX}),
		}, kind},
	} {
		checked(t, c.what, prog(c.l...), c.want)
	}
	inner := []api.Stmt{when(makeX...)}
	middle := []api.Stmt{when(inner...), when(inner...)}
	checked(t, "made far within", prog(when(middle...), number, when(middle...)), twice)
	checked(t, "made far within, where it is no more", prog(when(middle...), when(number), when(middle...)), api.Fault{})
	last := api.Stmt{Kind: api.Return, At: 5, E: num(1)}
	body := []api.Stmt{when(), last}
	p := prog(when(body[1:]...))
	p.Procs = append([]api.Proc{{Name: "f", Result: api.Param{Type: api.Int}, Body: body}}, p.Procs...)
	checked(t, "a Body laid within", p, api.Fault{Code: api.ErrForm, At: 5})
	body[0].A = body[1:]
	p.Procs[1].Body = nil
	checked(t, "its last statement laid within itself", p, api.Fault{Code: api.ErrForm, At: 5})
	body[0].A = nil
	p.Procs = append(p.Procs, api.Proc{Name: "g", Result: api.Param{Type: api.Bool}, Body: body})
	p.Procs[2].Body[1].E.At = 6
	checked(t, "a Body of two", p, kind)
}

// P6.2

func TestType(t *testing.T) {
	p := read(t, house+"proc none(n: int {}) { } proc five(): int {} { return 5; } proc both(n: int {}, m: bool {}): bool {a:} { return m; } proc main() { }")
	vars := []api.Param{{Name: "x", Type: api.Int}, {Name: "y", Type: api.Bool}, {Name: "main", Type: api.Int, L: api.Label{{Owner: "nobody"}}}}
	for _, c := range []struct {
		s    string
		t    int
		code api.Errno
	}{
		{"0", api.Int, api.OK},
		{"true", api.Bool, api.OK},
		{"false", api.Bool, api.OK},
		{"x", api.Int, api.OK},
		{"y", api.Bool, api.OK},
		{"main", api.Int, api.OK},
		{"@z", 0, api.ErrWho},
		{"@X", 0, api.ErrWho},
		{"@o", 0, api.ErrWho},
		{"@five", 0, api.ErrWho},
		{"five()", api.Int, api.OK},
		{"both(1, true)", api.Bool, api.OK},
		{"both(five(), both(x, y))", api.Bool, api.OK},
		{"@x()", 0, api.ErrWho},
		{"@z(z)", 0, api.ErrWho},
		{"@five(z)", 0, api.ErrForm},
		{"@both()", 0, api.ErrForm},
		{"@both(1)", 0, api.ErrForm},
		{"@both(true, 1, 1)", 0, api.ErrForm},
		{"both(@true, z)", 0, api.ErrType},
		{"both(@y, 1)", 0, api.ErrType},
		{"both(1, @1)", 0, api.ErrType},
		{"both(1, @z)", 0, api.ErrWho},
		{"both(1 @== 1, 1)", 0, api.ErrType},
		{"@none(1)", 0, api.ErrType},
		{"@none()", 0, api.ErrForm},
		{"none(@true)", 0, api.ErrType},
		{"none(@z)", 0, api.ErrWho},
		{"@main()", 0, api.ErrType},
		{"-@none(1)", 0, api.ErrType},
		{"x + @none(1)", 0, api.ErrType},
		{"@none(1) == z", 0, api.ErrType},
		{"@none(1) == @none(1)", 0, api.ErrType},
		{"release(x to {})", api.Int, api.OK},
		{"release(y to {a:b;b:})", api.Bool, api.OK},
		{"@release(x to {z:})", 0, api.ErrWho},
		{"@release(x to {a:z})", 0, api.ErrWho},
		{"@release(z to {z:})", 0, api.ErrWho},
		{"release(@z to {a:})", 0, api.ErrWho},
		{"release(@none(1) to {a:})", 0, api.ErrType},
		{"-x", api.Int, api.OK},
		{"--x", api.Int, api.OK},
		{"-@y", 0, api.ErrType},
		{"-@z", 0, api.ErrWho},
		{"!y", api.Bool, api.OK},
		{"!@x", 0, api.ErrType},
		{"!@z", 0, api.ErrWho},
		{"-@!y", 0, api.ErrType},
		{"!@-x", 0, api.ErrType},
		{"x == 1 && !y", api.Bool, api.OK},
		{"(x < 1) == y", api.Bool, api.OK},
		{"(x < 1) == @x", 0, api.ErrType},
		{"y == (y == y)", api.Bool, api.OK},
		{"x == @y == y", 0, api.ErrType},
		{"x == x == y", api.Bool, api.OK},
		{"x == x == @x", 0, api.ErrType},
		{"x @< 1 < 1", 0, api.ErrType},
		{"x + 1 < x * (3 - x)", api.Bool, api.OK},
		{"1 + (x @< 1)", 0, api.ErrType},
		{"@z + @z", 0, api.ErrWho},
		{"@y + z", 0, api.ErrType},
		{"@x && z", 0, api.ErrType},
		{"@y < z", 0, api.ErrType},
	} {
		s, at := marked(c.s)
		s = strings.ReplaceAll(s, "@", "")
		want := api.Fault{Code: c.code, At: at}
		if k, f := Type(p, vars, readExpr(t, s)); k != c.t || f != want {
			t.Errorf("%s: %d, %v, want %d, %v", c.s, k, f, c.t, want)
		}
	}
}

// TestSigns: each sign with each types.
func TestSigns(t *testing.T) {
	p := read(t, "proc main() { }")
	for signs, what := range map[string][3]int{
		"&& ||":     {api.Bool, api.Bool, api.Bool},
		"< <= > >=": {api.Int, api.Int, api.Bool},
		"== !=":     {0, 0, api.Bool},
		"+ - * / %": {api.Int, api.Int, api.Int},
	} {
		for _, sign := range strings.Fields(signs) {
			for i, a := range []string{"1", "true"} {
				for j, b := range []string{"2", "false"} {
					takes := what[0]
					if takes == 0 {
						takes = i + 1
					}
					want, f := what[2], api.Fault{}
					if takes != j+1 {
						want, f = 0, api.Fault{Code: api.ErrType, At: len(a) + len(sign) + 2}
					}
					if takes != i+1 {
						want, f = 0, api.Fault{Code: api.ErrType}
					}
					s := a + " " + sign + " " + b
					if got, g := Type(p, nil, readExpr(t, s)); got != want || g != f {
						t.Errorf("%s: %d, %v, want %d, %v", s, got, g, want, f)
					}
				}
			}
		}
	}
}

func TestTypeFaults(t *testing.T) {
	p := read(t, "proc main() { }")
	wrong := read(t, "proc f() { } proc main() { x = 1; }")
	unformed := api.Expr{Kind: api.Var, At: 9}
	many := make([]api.Param, api.MaxBody+1)
	for i := range many {
		many[i] = api.Param{Name: fmt.Sprint("x", i), Type: api.Int + i%2}
	}
	deep := num(1)
	for range api.MaxDeep {
		deep = op("-", deep)
	}
	zero := api.Fault{}
	for _, c := range []struct {
		what string
		p    api.Program
		vars []api.Param
		x    api.Expr
		want int
		f    api.Fault
	}{
		{"a program that is wrong", wrong, many, unformed, 0, Check(wrong)},
		{"no program", api.Program{}, nil, num(1), 0, api.Fault{Code: api.ErrWho}},
		{"an unformed program", prog(api.Stmt{}), nil, num(1), 0, api.Fault{Code: api.ErrForm}},
		{"one more", p, many, unformed, 0, api.Fault{Code: api.ErrMany}},
		{"one more that isn't asked for", p, many, num(1), 0, api.Fault{Code: api.ErrMany}},
		{"as many as may be", p, many[1:], v("x20"), api.Int, zero},
		{"the first of them", p, many[1:], v("x1"), api.Bool, zero},
		{"not of them", p, many[1:], v("x0"), 0, api.Fault{Code: api.ErrWho}},
		{"unformed", p, many[1:], unformed, 0, api.Fault{Code: api.ErrForm}},
		{"nothing", p, nil, api.Expr{At: 3}, 0, api.Fault{Code: api.ErrForm}},
		{"unformed within", p, nil, op("+", v("z"), unformed), 0, api.Fault{Code: api.ErrForm}},
		{"too deep", p, nil, deep, 0, api.Fault{Code: api.ErrForm}},
		{"as deep as may be", p, nil, deep.A[0], api.Int, zero},
		{"none is there", p, nil, api.Expr{Kind: api.Var, At: 9, Name: "x"}, 0, api.Fault{Code: api.ErrWho, At: 9}},
		{"ahead of 0", p, nil, api.Expr{Kind: api.Var, At: -9, Name: "x"}, 0, api.Fault{Code: api.ErrWho, At: -9}},
		{"twice, the last one", p, []api.Param{{Name: "x", Type: api.Int}, {Name: "x", Type: api.Bool}}, v("x"), api.Bool, zero},
		{"twice, with another behind", p, []api.Param{{Name: "x", Type: api.Bool}, {Name: "x", Type: api.Int}, {Name: "y", Type: api.Bool}}, v("x"), api.Int, zero},
		{"of no type", p, []api.Param{{Name: "x"}}, v("x"), api.None, zero},
		{"of no type, within", p, []api.Param{{Name: "x"}}, op("-", v("x")), 0, api.Fault{Code: api.ErrType}},
		{"of another type", p, []api.Param{{Name: "x", Type: -7}}, v("x"), -7, zero},
		{"two of another type", p, []api.Param{{Name: "x", Type: 7}}, op("==", v("x"), v("x")), api.Bool, zero},
		{"two of no type", p, []api.Param{{Name: "x"}, {Name: "y"}}, op("!=", v("x"), v("y")), api.Bool, zero},
		{"two of other types", p, []api.Param{{Name: "x", Type: 7}, {Name: "y", Type: 8}}, op("==", v("x"), v("y")), 0, api.Fault{Code: api.ErrType}},
		{"names that are none", p, []api.Param{{}, {Name: "if", Type: api.Int}, {Name: "x", Type: api.Int}, {Name: "\xff"}}, v("x"), api.Int, zero},
	} {
		if got, f := Type(c.p, c.vars, c.x); got != c.want || f != c.f {
			t.Errorf("%s: %d, %v, want %d, %v", c.what, got, f, c.want, c.f)
		}
	}
}

// TestTypeMade holds Type against a teller, and against a program in which the expression is sent.
func TestTypeMade(t *testing.T) {
	right, wrong := 0, 0
	for i := range 8000 {
		m := &maker{thrower: dice(i), slips: 1000000}
		p := m.program()
		if Check(p).Code != api.OK {
			continue
		}
		m.slips, m.vars = []int{1000000, 30, 5}[i%3], nil
		names := []string{"x", "y", "z", "main", "x", "q"}
		s := scene{}
		for _, name := range names[:m.roll(7)] {
			q := api.Param{Name: name, Type: m.kind()}
			m.vars, s[name] = append(m.vars, q), q.Type
		}
		vars := m.vars
		m.vars = nil
		for name, kind := range s {
			m.vars = append(m.vars, api.Param{Name: name, Type: kind})
		}
		slices.SortFunc(m.vars, func(a, b api.Param) int { return strings.Compare(a.Name, b.Name) })
		x := m.expr(m.kind(), 4)
		w := teller{p: p}
		want := w.typeOf(s, x)
		f := append(w.out, api.Fault{})[0]
		if f.Code != api.OK {
			want = 0
			wrong++
		} else {
			right++
		}
		if got, g := Type(p, vars, x); got != want || g != f {
			s, _ := tree.Text(x)
			t.Fatalf("%d: %s: %d, %v, want %d, %v", i, s, got, g, want, f)
		}
	}
	if right < 1500 || wrong < 500 {
		t.Errorf("%d are right, %d wrong", right, wrong)
	}
}

// P6.3

// TestPrinted: what is right is right if it is printed and read again; what is wrong is wrong there for the same reason, at the same thing.
func TestPrinted(t *testing.T) {
	right, wrong := 0, 0
	for i := range 8000 {
		m := &maker{thrower: dice(i), slips: []int{1000000, 100}[i%2]}
		p := m.program()
		s, code := tree.Print(p)
		q, f := parse.Program(s)
		if code != api.OK || f.Code != api.OK {
			continue
		}
		f, g := Check(p), Check(q)
		if f.Code != g.Code || !sameThing(p, q, f.At, g.At) {
			t.Fatalf("%d: %v is %v if it is read again: %s", i, f, g, s)
		}
		if f.Code == api.OK {
			right++
		} else {
			wrong++
		}
	}
	if right < 1000 || wrong < 1000 {
		t.Errorf("%d are right, %d wrong", right, wrong)
	}
}

// sameThing: does the same thing stand at these bytes of two programs that are the same?
func sameThing(p, q api.Program, at, in int) bool {
	if at == 0 || in == 0 {
		return at == in
	}
	l := bytesOf(q)
	for i, b := range bytesOf(p) {
		if b == at && l[i] == in {
			return true
		}
	}
	return false
}

// P1 to P3

// TestEnds: lists that are shared, or lie within themselves, so that there is more than can be gone through one by one.
func TestEnds(t *testing.T) {
	calls := num(1)
	for range api.MaxDeep - 1 {
		calls = api.Expr{Kind: api.Call, Name: "f", A: []api.Expr{calls, calls, calls, calls}}
	}
	f := api.Proc{Name: "f", Result: api.Param{Type: api.Int}, Body: []api.Stmt{{Kind: api.Return, E: num(1)}}}
	for i := range api.MaxParams {
		f.Params = append(f.Params, api.Param{Name: fmt.Sprint("p", i), Type: api.Int})
	}
	plain := []api.Stmt{{Kind: api.Do, E: calls}}
	made := []api.Stmt{{Kind: api.Do, E: calls}}
	for i := range api.MaxDeep - 1 {
		plain = slices.Repeat([]api.Stmt{{Kind: api.If, E: op("<", calls.A[0], num(1)), A: plain, B: plain}}, api.MaxBody)
		inner := made
		made = nil
		for j := range api.MaxBody / 2 {
			made = append(made, let(fmt.Sprint("x", i, "_", j), calls), api.Stmt{Kind: api.If, E: bit(1), A: inner, B: inner})
		}
	}
	for what, l := range map[string][]api.Stmt{"plain": plain, "made": made} {
		p := prog(l...)
		p.Procs = append(p.Procs, f)
		checked(t, what, p, api.Fault{})
		p.Procs[0].Body = []api.Stmt{{Kind: api.If, E: bit(1), A: l}}
		checked(t, what+", deeper", p, api.Fault{Code: api.ErrForm})
	}
	p := prog()
	p.Procs = append(p.Procs, f)
	if k, g := Type(p, nil, calls); k != api.Int || g.Code != api.OK {
		t.Errorf("calls: %d, %v", k, g)
	}
	ring := []api.Stmt{when()}
	ring[0].A = ring
	checked(t, "within itself", prog(ring...), api.Fault{Code: api.ErrForm})
	x := []api.Expr{op("-")}
	x[0].A = x
	checked(t, "an expression within itself", prog(let("x", x[0])), api.Fault{Code: api.ErrForm})
	if k, g := Type(prog(), nil, x[0]); k != 0 || g != (api.Fault{Code: api.ErrForm}) {
		t.Errorf("within itself: %d, %v", k, g)
	}
	checked(t, "of many types", ofManyTypes(), api.Fault{})
}

// ofManyTypes: a list that is reached by very many ways, on which variables have other types.
func ofManyTypes() api.Program {
	var l []api.Stmt
	for i := range (api.MaxDeep - 2) / 2 {
		name := fmt.Sprint("x", i)
		l = append(l, let("y"+name, op("==", v(name), v(name))))
	}
	for i := range (api.MaxDeep - 2) / 2 {
		name := fmt.Sprint("x", i)
		inner := slices.Repeat([]api.Stmt{when(l...)}, api.MaxBody-1)
		l = []api.Stmt{
			when(append([]api.Stmt{let(name, num(1))}, inner...)...),
			when(append([]api.Stmt{let(name, bit(1))}, inner...)...),
		}
	}
	return prog(l...)
}

// TestReadOnly: what is handed in stays as it was, with its spare room.
func TestReadOnly(t *testing.T) {
	const text = house + "proc f(x: int {a:}): int {} { var y = x; if y == 1 { var z = y; z = f(z); } return y; } proc main() { var x = f(1); send o x; }"
	p, same := read(t, text), read(t, text)
	params := make([]api.Param, 5)
	copy(params, p.Procs[0].Params)
	p.Procs[0].Params = params[:1]
	vars := make([]api.Param, 2, 9)
	vars[0], vars[1] = api.Param{Name: "x", Type: api.Int}, api.Param{Name: "y", Type: api.Bool}
	x := readExpr(t, "f(x) == 1 && y")
	for range 2 {
		if f := Check(p); f != (api.Fault{}) {
			t.Error(f)
		}
		if k, f := Type(p, vars, x); k != api.Bool || f != (api.Fault{}) {
			t.Error(k, f)
		}
	}
	if !reflect.DeepEqual(p.Procs[1], same.Procs[1]) || !tree.Same(p, same) || !tree.SameExpr(x, readExpr(t, "f(x) == 1 && y")) {
		t.Error("changed")
	}
	for _, q := range append(params[1:], vars[2:9]...) {
		if q.Name != "" || q.Type != 0 {
			t.Error("the spare room has changed")
		}
	}
	if vars[0].Name != "x" || vars[1].Name != "y" {
		t.Error("the variables have changed")
	}
}

package tests

import (
	"fmt"
	"maps"
	"math"
	"math/rand"
	"slices"
	"strings"
	"testing"

	"loop.example/g00023/impl"
)

var fourAddress = impl.Address("out", "four", []byte("4"))

// programOf makes a program of one row: | ends a line, ' stands for ", and @1 to @4 for what roomGiven has or lacks.
func programOf(row string) string {
	return strings.NewReplacer("|", "\n", "'", `"`, "@1", "@"+oneAddress, "@2", "@"+twoAddress, "@3", "@"+threeAddress, "@4", "@"+fourAddress).Replace(row)
}

// roomGiven has two trees that are declared (one of them empty) and a third that is not; a fourth one is declared and not given.
func roomGiven() ([]string, []impl.Given) {
	given := []impl.Given{
		{Path: oneAddress, Tree: entriesOf("lib/ lib/x=X lib/y>x run*go")},
		{Path: twoAddress},
		{Path: threeAddress, Tree: entriesOf("secret=s")},
	}
	slices.SortFunc(given, func(a, b impl.Given) int { return strings.Compare(a.Path, b.Path) })
	declared := []string{oneAddress, twoAddress, fourAddress}
	slices.Sort(declared)
	return declared, given
}

func drvOf(row string, outputs ...string) impl.Drv {
	return impl.Drv{Name: "p", Outputs: outputs, Builder: programOf(row), Env: []impl.Pair{{Key: "e", Value: ""}, {Key: "k.1", Value: "K"}, {Key: "v", Value: "1.2"}, {Key: "w", Value: "<@w@>"}}}
}

func buildRow(row string, outputs ...string) impl.Built {
	declared, given := roomGiven()
	return impl.Build(drvOf(row, outputs...), declared, given, impl.MaxSteps)
}

// shownBuilt shows the trees of all outputs, parted by " | ", or the fault.
func shownBuilt(b impl.Built) string {
	if b.Code != impl.BuildOk {
		return fmt.Sprintf("fault %d at %d", b.Code, b.Line)
	}
	trees := []string{}
	for _, out := range b.Outs {
		trees = append(trees, shownEntries(out.Tree))
	}
	return strings.Join(trees, " | ")
}

// buildsAre wants rows of a program and what is shown of it.
func buildsAre(t *testing.T, rows [][2]string) {
	t.Helper()
	for _, row := range rows {
		b := buildRow(row[0], "out")
		if got := shownBuilt(b); got != row[1] {
			t.Errorf("%q: %q, not %q", row[0], got, row[1])
		}
		if (b.Code == impl.BuildOk) == (len(b.Outs) == 0) || b.Code == impl.BuildOk && b.Line != 0 {
			t.Errorf("%q: Code %d with Line %d and %d outputs", row[0], b.Code, b.Line, len(b.Outs))
		}
	}
}

func TestBuildCodes(t *testing.T) {
	codes := []int{impl.BuildOk, impl.BuildArgs, impl.BuildSteps, impl.BuildNone, impl.BuildForm, impl.BuildName, impl.BuildKind, impl.BuildDiffer, impl.BuildFail, impl.BuildHidden, impl.BuildTree, impl.BuildFixed}
	for i, code := range codes {
		if i != code {
			t.Errorf("the code %d is %d", i, code)
		}
	}
	if impl.MaxSteps != 10000 || impl.MaxLog != 200 {
		t.Error(impl.MaxSteps, impl.MaxLog)
	}
}

func TestMkdirWriteEnvLink(t *testing.T) {
	buildsAre(t, [][2]string{
		{"mkdir a", "a/"},
		{"mkdir a/b/c", "a/ a/b/ a/b/c/"},
		{"mkdir a|mkdir a/b|mkdir a|mkdir a/b", "a/ a/b/"},
		{"mkdir a/b|write a/b/c 'x'|mkdir a|mkdir a/b/d", "a/ a/b/ a/b/c=x a/b/d/"},
		{"mkdir a|mkdir a-|mkdir a+/b|mkdir a/b", "a/ a+/ a+/b/ a-/ a/b/"},
		{"mkdir 1/2/3/4/5/6/7/8|cut 1/2/3", "1/ 1/2/"},
		{"mkdir 1/2/3/4/5/6/7/8/9", "fault 4 at 1"},
		{"write a 'x'|mkdir a", "fault 10 at 2"},
		{"write a 'x'|mkdir a/b", "fault 10 at 2"},
		{"write a 'x'|mkdir a/b/c", "fault 10 at 2"},
		{"link a 'x'|mkdir a", "fault 10 at 2"},
		{"link a 'b'|mkdir b|mkdir a/c", "fault 10 at 3"},

		{"write a ''", "a="},
		{"write a 'x y'", "a=x y"},
		{"write a 'x'|write a 'y'", "a=y"},
		{"write a 'x'|exec a|write a 'y'", "a=y"},
		{"link a 'x'|write a 'y'", "a=y"},
		{"mkdir a|write a 'y'", "a=y"},
		{"mkdir a|mkdir a-b|write a 'y'", "a=y a-b/"},
		{"mkdir a/b|write a 'y'", "fault 10 at 2"},
		{"mkdir a|write a/b ''|write a 'y'", "fault 10 at 3"},
		{"write a/b 'x'", "fault 10 at 1"},
		{"mkdir a|write a/b/c 'x'", "fault 10 at 2"},
		{"write a 'x'|write a/b 'y'", "fault 10 at 2"},
		{"link a 'x'|write a/b 'y'", "fault 10 at 2"},

		{"env a v", "a=1.2"},
		{"env a e", "a="},
		{"env a k.1|env a w", "a=<@w@>"},
		{"env a nope", "fault 5 at 1"},
		{"env a V", "fault 5 at 1"},
		{"env a/b nope", "fault 5 at 1"},
		{"env a/b v", "fault 10 at 1"},
		{"link a 'x'|env a v", "a=1.2"},
		{"mkdir a|env a v", "a=1.2"},
		{"mkdir a/b|env a v", "fault 10 at 2"},
		{"write a 'x'|exec a|env a v", "a=1.2"},

		{"link a 'to the/end'", "a>to the/end"},
		{"link a ''", "fault 10 at 1"},
		{"link a/b 'x'", "fault 10 at 1"},
		{"write a 'x'|exec a|link a 'y'", "a>y"},
		{"link a 'x'|link a 'y'", "a>y"},
		{"mkdir a|link a 'y'", "a>y"},
		{"mkdir a/b|link a 'y'", "fault 10 at 2"},
		{"write a 'x'|link a/b 'y'", "fault 10 at 2"},
	})
}

func TestCopy(t *testing.T) {
	buildsAre(t, [][2]string{
		{"write a 'x'|exec a|copy a b", "a*x b*x"},
		{"link a 'x'|copy a b", "a>x b>x"},
		{"mkdir a/b|write a/c 'x'|copy a d", "a/ a/b/ a/c=x d/ d/b/ d/c=x"},
		{"mkdir a/b|mkdir d|write d/e 'y'|write a/c 'x'|write d/c 'z'|copy a d", "a/ a/b/ a/c=x d/ d/b/ d/c=x d/e=y"},
		{"mkdir a/b|write d 'y'|copy a d", "a/ a/b/ d/ d/b/"},
		{"mkdir a/b|link d 'y'|copy a d", "a/ a/b/ d/ d/b/"},
		{"mkdir a|write a/b ''|mkdir d/b/c|copy a d", "fault 10 at 4"},
		{"mkdir a|write a/b ''|write a/c ''|mkdir d/b/x|copy a d", "fault 10 at 5"},
		{"mkdir a|write a/b ''|mkdir d/b|copy a d", "a/ a/b= d/ d/b="},
		{"mkdir a/b/c|mkdir d|link d/b 'x'|copy a d", "a/ a/b/ a/b/c/ d/ d/b/ d/b/c/"},
		{"write a 'x'|mkdir b|copy a b", "a=x b=x"},
		{"write a 'x'|mkdir b/c|copy a b", "fault 10 at 3"},
		{"write a 'x'|mkdir b|copy a b/c", "a=x b/ b/c=x"},
		{"write a 'x'|copy a b/c", "fault 10 at 2"},
		{"write a 'x'|copy a a", "a=x"},
		{"write a 'x'|copy a a/b", "fault 10 at 2"},
		{"mkdir a/b|copy a a", "a/ a/b/"},
		{"mkdir a/b|write a/c 'x'|copy a a/d", "a/ a/b/ a/c=x a/d/ a/d/b/ a/d/c=x"},
		{"mkdir a/b|write a/c 'x'|copy a a/b", "a/ a/b/ a/b/b/ a/b/c=x a/c=x"},
		{"mkdir a/b|write a/c 'x'|copy a a/c", "a/ a/b/ a/c/ a/c/b/ a/c/c=x"},
		{"mkdir a/b|write a/b/c 'x'|copy a/b a", "a/ a/b/ a/b/c=x a/c=x"},
		{"mkdir a/b|copy a a/d/e", "fault 10 at 2"},
		{"mkdir a|mkdir a-b|write a.c ''|copy a d", "a/ a-b/ a.c= d/"},
		{"copy a b", "fault 3 at 1"},
		{"mkdir a|copy a/b c", "fault 3 at 2"},
		{"write a 'x'|copy a/b c", "fault 3 at 2"},

		{"copy @1 a", "a/ a/lib/ a/lib/x=X a/lib/y>x a/run*go"},
		{"write a 'x'|copy @1 a", "a/ a/lib/ a/lib/x=X a/lib/y>x a/run*go"},
		{"mkdir a/b|mkdir a/run|copy @1 a", "a/ a/b/ a/lib/ a/lib/x=X a/lib/y>x a/run*go"},
		{"mkdir a/run/b|copy @1 a", "fault 10 at 2"},
		{"copy @2 a", "a/"},
		{"write a 'x'|copy @2 a", "a/"},
		{"copy @1/lib a", "a/ a/x=X a/y>x"},
		{"copy @1/lib/y a", "a>x"},
		{"copy @1/run run", "run*go"},
		{"copy @1/run a/run", "fault 10 at 1"},
		{"copy @1/li a", "fault 3 at 1"},
		{"copy @1/lib/x/y a", "fault 3 at 1"},
		{"copy @2/lib a", "fault 3 at 1"},
		{"copy @3 a", "fault 9 at 1"},
		{"copy @3/secret a", "fault 9 at 1"},
		{"copy @3/nope a", "fault 9 at 1"},
		{"copy @4 a", "fault 9 at 1"},
		{"copy @4/x a/b", "fault 9 at 1"},
		{"copy @" + impl.Address("out", "five", nil) + " a", "fault 9 at 1"},
		{"copy @1-lib a", "fault 9 at 1"},
		{"copy a @1", "fault 4 at 1"},
		{"copy @3 @1", "fault 4 at 1"},
		{"copy @3 a//b", "fault 4 at 1"},
	})
}

func TestJoinSwapExec(t *testing.T) {
	buildsAre(t, [][2]string{
		{"join a", "fault 4 at 1"},
		{"write a 'x'|join b a", "a=x b=x"},
		{"write a 'x'|write b 'y'|join c a b a @1/lib/x @1/run", "a=x b=y c=xyxXgo"},
		{"write a 'x'|exec a|join a a a", "a=xx"},
		{"write a 'x'|link b 'y'|join b a", "a=x b=x"},
		{"write a 'x'|mkdir b|join b a", "a=x b=x"},
		{"write a 'x'|mkdir b/c|join b a", "fault 10 at 3"},
		{"write a 'x'|join b/c a", "fault 10 at 2"},
		{"write a ''|join a a", "a="},
		{"mkdir a|join b a", "fault 6 at 2"},
		{"write a 'x'|link b 'a'|join c a b", "fault 6 at 3"},
		{"join a @1/lib", "fault 6 at 1"},
		{"join a @1", "fault 6 at 1"},
		{"join a @1/lib/y", "fault 6 at 1"},
		{"write a 'x'|join b a c", "fault 3 at 2"},
		{"join a @1/lib/z", "fault 3 at 1"},
		{"join a @3/secret", "fault 9 at 1"},
		{"join a @1/lib/x @4", "fault 9 at 1"},
		{"join a/b @3/secret", "fault 9 at 1"},
		{"join @1 @1/lib/x", "fault 4 at 1"},
		{"join a b @1/", "fault 4 at 1"},

		{"write a 'v=@v@'|swap a v", "a=v=1.2"},
		{"write a 'v'|swap a v", "a=v"},
		{"write a ''|swap a v", "a="},
		{"write a '@v@@v@v@ @v @ v@@k.1@'|swap a v", "a=1.21.2v@ @v @ v@@k.1@"},
		{"write a '@v@v@v@'|swap a v", "a=1.2v1.2"},
		{"write a '@@v@'|swap a v", "a=@1.2"},
		{"write a '@w@@w@'|swap a w", "a=<@w@><@w@>"},
		{"write a '@w@'|swap a w|swap a w", "a=<<@w@>>"},
		{"write a '@e@x@e@'|swap a e", "a=x"},
		{"write a '@@e@e@'|swap a e", "a=@e@"},
		{"write a '@k.1@@kx1@@V@'|swap a k.1", "a=K@kx1@@V@"},
		{"write a '@v@'|exec a|swap a v", "a*1.2"},
		{"mkdir a|write a/b '@v@'|swap a/b v", "a/ a/b=1.2"},
		{"write a '@u@'|swap a u", "fault 5 at 2"},
		{"write a 'x'|swap a u", "fault 5 at 2"},
		{"link a '@v@'|swap a v", "fault 6 at 2"},
		{"mkdir a|swap a v", "fault 6 at 2"},
		{"swap a v", "fault 3 at 1"},
		{"swap @1/run v", "fault 4 at 1"},

		{"write a 'x'|exec a", "a*x"},
		{"write a 'x'|exec a|exec a", "a*x"},
		{"mkdir a|copy @1/lib/x a/x|exec a/x", "a/ a/x*X"},
		{"mkdir a|exec a", "fault 6 at 2"},
		{"link a 'b'|write b 'x'|exec a", "fault 6 at 3"},
		{"exec a", "fault 3 at 1"},
		{"exec @1/run", "fault 4 at 1"},
	})
}

func TestCutMoveNeedSame(t *testing.T) {
	buildsAre(t, [][2]string{
		{"write a 'x'|cut a", ""},
		{"mkdir a/b|write a/b/c ''|mkdir a-|mkdir a0|cut a", "a-/ a0/"},
		{"mkdir a/b|write a/b/c ''|write a/d ''|cut a/b", "a/ a/d="},
		{"link a 'b'|mkdir b|cut a", "b/"},
		{"mkdir a|cut a|cut a", "fault 3 at 3"},
		{"cut a", "fault 3 at 1"},
		{"mkdir ab|cut a", "fault 3 at 2"},
		{"cut @1", "fault 4 at 1"},

		{"write a 'x'|exec a|move a b", "b*x"},
		{"link a 'x'|move a b", "b>x"},
		{"mkdir a/b|write a/c 'x'|move a d", "d/ d/b/ d/c=x"},
		{"mkdir a/b|mkdir d/e|move a d", "d/ d/b/ d/e/"},
		{"mkdir a/b|write d 'x'|move a d", "d/ d/b/"},
		{"mkdir a|move a a-b", "a-b/"},
		{"mkdir a|mkdir b|move a b/c", "b/ b/c/"},
		{"mkdir a|write a/b 'x'|move a/b c", "a/ c=x"},
		{"mkdir a/b|write a/b/c 'x'|move a/b a", "a/ a/c=x"},
		{"mkdir a/b/b/c|move a/b a", "a/"},
		{"mkdir a|write a/b 'x'|move a/b a", "fault 10 at 3"},
		{"mkdir a|mkdir b/c|move a b/d/e", "fault 10 at 3"},
		{"write a 'x'|mkdir b/c|move a b", "fault 10 at 3"},
		{"mkdir a|move a a", "fault 4 at 2"},
		{"mkdir a|move a a/b", "fault 4 at 2"},
		{"write a 'x'|move a a/b/c", "fault 4 at 2"},
		{"move a a", "fault 4 at 1"},
		{"move a b", "fault 3 at 1"},
		{"move @1 b", "fault 4 at 1"},
		{"mkdir a|move a @1", "fault 4 at 2"},

		{"write a 'x'|need a", "a=x"},
		{"mkdir a/b|need a|need a/b|link l 'x'|need l", "a/ a/b/ l>x"},
		{"need @1|need @1/lib|need @1/lib/y|need @2", ""},
		{"need a", "fault 3 at 1"},
		{"need @1/x", "fault 3 at 1"},
		{"need @2/x", "fault 3 at 1"},
		{"need @3", "fault 9 at 1"},
		{"need @4", "fault 9 at 1"},

		{"write a 'x'|write b 'x'|same a b", "a=x b=x"},
		{"write a 'x'|same a a", "a=x"},
		{"write a 'x'|write b 'y'|same a b", "fault 7 at 3"},
		{"write a 'x'|write b 'x'|exec b|same a b", "fault 7 at 4"},
		{"write a 'x'|link b 'x'|same a b", "fault 7 at 3"},
		{"link a 'x'|link b 'x'|same a b|link b 'y'|same a b", "fault 7 at 5"},
		{"mkdir a|write b ''|same a b", "fault 7 at 3"},
		{"mkdir a|mkdir b|same a b|same @2 a|same b @2", "a/ b/"},
		{"mkdir a/b|mkdir c|same a c", "fault 7 at 3"},
		{"mkdir a/b|mkdir c/b|same a c|write c/b 'x'|same a c", "fault 7 at 5"},
		{"mkdir a/b|mkdir c/b|mkdir a/b/d|same a c", "fault 7 at 4"},
		{"mkdir a|mkdir a-b|mkdir c|same a c", "a/ a-b/ c/"},
		{"copy @1 a|same a @1|same @1/lib a/lib|same a/run @1/run|exec a/lib/x|same @1 a", "fault 7 at 6"},
		{"same a b", "fault 3 at 1"},
		{"write a 'x'|same a b", "fault 3 at 2"},
		{"write a 'x'|same b a", "fault 3 at 2"},
		{"same @1/a @2", "fault 3 at 1"},
		{"same @1 @3", "fault 9 at 1"},
		{"same @4 @1", "fault 9 at 1"},
	})
}

func TestWhenLogFail(t *testing.T) {
	for _, row := range []struct{ program, shown, log string }{
		{"write a 'x'|when v|log '1'|write a 'y'", "a=y", "1"},
		{"write a 'x'|when e|log '1'|foo", "a=x", ""},
		{"write a 'x'|log '0'|when nope|fail '1'", "a=x", "0"},
		{"when V|foo", "", ""},
		{"when v|when w|when k.1|log '1'|when e|log '2'|when v|log '3'", "", "1"},
		{"log ''|log 'x y'|log ''|write a ''", "a=", ",x y,"},
		{"log '1'|fail '2'|log '3'", "fault 8 at 2", "1,2"},
		{"fail ''", "fault 8 at 1", ""},
		{"log '1'|log '2'|foo|log '3'", "fault 4 at 3", "1,2"},
		{"log '1'|need a", "fault 3 at 2", "1"},
		{"log '1'|into out a", "fault 3 at 0", "1"},
		{"when", "fault 4 at 1", ""},
		{"when .v", "fault 4 at 1", ""},
		{"when 'v'", "fault 4 at 1", ""},
		{"when v v", "fault 4 at 1", ""},
	} {
		b := buildRow(row.program, "out")
		if got, log := shownBuilt(b), strings.Join(b.Log, ","); got != row.shown || log != row.log {
			t.Errorf("%q: %q with the log %q, not %q with %q", row.program, got, log, row.shown, row.log)
		}
	}
	for _, many := range []int{199, 200, 201, 250} {
		d := impl.Drv{Name: "p", Outputs: []string{"out"}, Builder: strings.Repeat("log \"\"\n", many-1) + "fail \"last\""}
		b := impl.Build(d, nil, nil, 300)
		want := make([]string, min(many, 200))
		if many <= 200 {
			want[many-1] = "last"
		}
		if b.Code != impl.BuildFail || b.Line != int64(many) || !slices.Equal(b.Log, want) {
			t.Errorf("%d texts are logged: Code %d at %d with %d", many, b.Code, b.Line, len(b.Log))
		}
		d.Builder = strings.Replace(d.Builder, "fail", "log", 1)
		if b := impl.Build(d, nil, nil, 300); b.Code != impl.BuildOk || !slices.Equal(b.Log, want) {
			t.Errorf("%d texts are logged: Code %d with %d", many, b.Code, len(b.Log))
		}
	}
}

func TestTextsInLines(t *testing.T) {
	for _, row := range []struct{ shown, meant string }{
		{`""`, ""}, {`" "`, " "}, {`"  a  b  "`, "  a  b  "}, {`"a\nb"`, "a\nb"}, {`"\t\"\\"`, "\t\"\\"}, {`"\\n"`, `\n`}, {`"\\"`, `\`},
		{`"\" \""`, `" "`}, {`"'#|@é` + "\xff\x7f" + `"`, "'#|@é\xff\x7f"}, {`"log \"x\""`, `log "x"`},
	} {
		if impl.ShowText(row.meant) != row.shown {
			t.Errorf("%q is not what is shown of %q", row.shown, row.meant)
		}
		for _, around := range []string{"log %s", "log %s\n", "log   %s  ", "  log %s \n", "log %s\nlog \"2\""} {
			d := impl.Drv{Name: "p", Outputs: []string{"out"}, Builder: fmt.Sprintf(around, row.shown)}
			if b := impl.Build(d, nil, nil, 2); b.Code != impl.BuildOk || len(b.Log) == 0 || b.Log[0] != row.meant {
				t.Errorf("%q: %+v", d.Builder, b)
			}
		}
		d := impl.Drv{Name: "p", Outputs: []string{"out"}, Builder: "write f " + row.shown}
		if b := impl.Build(d, nil, nil, 2); b.Code != impl.BuildOk || b.Outs[0].Tree[0].Data != row.meant {
			t.Errorf("%q: %+v", d.Builder, b)
		}
	}
	for _, text := range []string{
		``, `"`, `a`, `"a`, `a"`, `"\"`, `"\x"`, `"\`, `"a"b`, `a"b"`, `"a""b"`, `"a" "b"`, `"a" b`, `a "b"`, `"a"b "c"`, "\"a\nb\"", `'a'`, `"a b`, `a b"`, `"\ "`, `"""`, `"\0"`, `"\r"`, `"\'"`, `"\T"`, `""a`,
	} {
		for _, ahead := range []string{"log ", "fail ", "write f ", "link f "} {
			d := impl.Drv{Name: "p", Outputs: []string{"out"}, Builder: ahead + text}
			if b := impl.Build(d, nil, nil, 9); !same(b, impl.Built{Code: impl.BuildForm, Line: 1}) {
				t.Errorf("%q: %+v", d.Builder, b)
			}
		}
	}
}

func TestLinesThatAreNone(t *testing.T) {
	long := strings.Repeat("n", 60)
	ordinary := []string{
		"mkdir a", "write a 'x'", "env a v", "copy b a", "join a b b", "swap b v", "exec b", "link a 'x'", "cut b", "move b a", "need b", "same b b", "when v", "log 'x'", "into out b",
		"mkdir " + long, "copy @1 a", "join a @1/run", "need @1/lib", "same @1 @1", "  mkdir   a  ", "join a b b b b",
	}
	for _, line := range ordinary {
		if b := buildRow("write b ''|"+line, "out"); b.Code != impl.BuildOk {
			t.Errorf("%q ends with %d at %d", line, b.Code, b.Line)
		}
	}
	for _, line := range append(slices.Clone(ordinary), "fail 'x'") {
		words := strings.Fields(line)
		fewer := strings.Join(words[:len(words)-1], " ")
		wrong := []string{strings.ToUpper(words[0]) + " " + strings.Join(words[1:], " "), "x" + line, strings.Join(words, "")}
		if words[0] != "join" {
			wrong = append(wrong, fewer, line+" a", line+" 'x'", line+" 'x' 'y'")
		} else {
			wrong = append(wrong, words[0], "join a", line+" 'x'", line+" a//b", line+" @")
		}
		for i := range words[1:] {
			for _, bad := range []string{"/", "a/", "/a", "a//b", ".a", "a/.b", "a*", "@", "@1/", "@x", "@1//lib", "@1/.lib", "@@1", "@1@", "é", "'", "'a", "a'", long + "n", "a/" + long + "n", "1/2/3/4/5/6/7/8/9", "@1/1/2/3/4/5/6/7/8/9", "a\x7f", "\\"} {
				changed := slices.Clone(words)
				changed[i+1] = bad
				wrong = append(wrong, strings.Join(changed, " "))
			}
		}
		for _, none := range wrong {
			if b := buildRow("write b ''|log '1'|"+none, "out"); !same(b, impl.Built{Code: impl.BuildForm, Line: 3, Log: []string{"1"}}) {
				t.Errorf("%q ends with %d at %d", none, b.Code, b.Line)
			}
		}
	}
	for _, none := range []string{"foo", "a", "'", "''", "'mkdir' a", "@1", "#", "# a note", "mkdir a # a note", "mkdir a;", "log:", "mk dir a", "mkdir'a'", "log'x'", "into 'out' b", "into out @1", "into .out b", "env a 'v'", "swap b .v", "env b v/w"} {
		if b := buildRow("write b ''|"+none, "out"); !same(b, impl.Built{Code: impl.BuildForm, Line: 2}) {
			t.Errorf("%q ends with %d at %d", none, b.Code, b.Line)
		}
	}
}

func TestProgramsAsLines(t *testing.T) {
	for _, row := range []struct {
		program string
		lines   int64
		shown   string
	}{
		{"", 0, ""}, {"|", 1, ""}, {"||", 2, ""}, {" ", 1, ""}, {"   |  ", 2, ""}, {"|   |", 2, ""},
		{"mkdir a", 1, "a/"}, {"mkdir a|", 1, "a/"}, {"mkdir a||", 2, "a/"}, {"|mkdir a", 2, "a/"}, {"mkdir a| ", 2, "a/"},
		{"  mkdir   a  |   write  a/b    'x'   |", 2, "a/ a/b=x"}, {"mkdir a|||mkdir b|", 4, "a/ b/"},
		{"write a 'x'|when e|||", 2, "a=x"}, {"write a 'x'|when e|foo|foo", 2, "a=x"},
	} {
		d := drvOf(row.program, "out")
		for _, steps := range []int64{row.lines, row.lines + 1, 100, 10000} {
			if b := impl.Build(d, nil, nil, steps); shownBuilt(b) != row.shown {
				t.Errorf("%q in %d steps: %q", row.program, steps, shownBuilt(b))
			}
		}
		for steps := range row.lines {
			if b := impl.Build(d, nil, nil, steps); !same(b, impl.Built{Code: impl.BuildSteps, Line: steps + 1}) {
				t.Errorf("%q in %d steps: %+v", row.program, steps, b)
			}
		}
		for _, steps := range []int64{-1, 10001, math.MinInt64, math.MaxInt64} {
			if b := impl.Build(d, nil, nil, steps); !same(b, impl.Built{Code: impl.BuildArgs}) {
				t.Errorf("%q in %d steps: %+v", row.program, steps, b)
			}
		}
	}
	d := drvOf("log '1'|log '2'|foo", "out")
	for steps, want := range []impl.Built{{Code: impl.BuildSteps, Line: 1}, {Code: impl.BuildSteps, Line: 2, Log: []string{"1"}}, {Code: impl.BuildSteps, Line: 3, Log: []string{"1", "2"}}, {Code: impl.BuildForm, Line: 3, Log: []string{"1", "2"}}} {
		if b := impl.Build(d, nil, nil, int64(steps)); !same(b, want) {
			t.Errorf("in %d steps: %+v", steps, b)
		}
	}
	d.Builder = strings.Repeat("\n", 4000)
	if b := impl.Build(d, nil, nil, 4000); b.Code != impl.BuildOk {
		t.Error("MaxText lines:", b)
	}
	if b := impl.Build(d, nil, nil, 3999); b.Code != impl.BuildSteps || b.Line != 4000 {
		t.Error("MaxText lines in one step less:", b)
	}
}

func TestOutputs(t *testing.T) {
	const three = "mkdir a/b|write a/b/c 'x'|exec a/b/c|link a/l 'to'|"
	for _, row := range []struct{ program, outputs, shown string }{
		{three, "out", "a/ a/b/ a/b/c*x a/l>to"},
		{three, "lib", "a/ a/b/ a/b/c*x a/l>to"},
		{three + "into out a", "out", "b/ b/c*x l>to"},
		{three + "into lib a/b", "lib", "c*x"},
		{three + "into out a/b/c", "out", "c*x"},
		{three + "into out a/l", "out", "l>to"},
		{three + "into out e|mkdir e", "out", ""},
		{three + "into out a|into out a/b", "out", "c*x"},
		{three + "into out nope|into out a/b", "out", "c*x"},
		{three + "into out a/b|into out nope", "out", "fault 3 at 0"},
		{three + "into out a/b|cut a|write a 'new'", "out", "fault 3 at 0"},
		{three + "into out a/b|write a/b/d 'new'", "out", "c*x d=new"},
		{three + "into out a/b/c/d", "out", "fault 3 at 0"},
		{three + "into out a|into out nope|when e|into out a", "out", "fault 3 at 0"},
		{three + "into doc a", "out", "fault 5 at 5"},
		{three + "into ou a", "out", "fault 5 at 5"},
		{three + "into out a", "lib", "fault 5 at 5"},
		{three + "into doc nope/nope", "out", "fault 5 at 5"},
		{three + "into doc a/b", "doc out", "c*x | a/ a/b/ a/b/c*x a/l>to"},
		{three + "into out a/b", "doc out", "fault 5 at 0"},
		{three, "doc out", "fault 5 at 0"},
		{three, "out z", "fault 5 at 0"},
		{three + "into z a", "out z", "a/ a/b/ a/b/c*x a/l>to | b/ b/c*x l>to"},
		{three + "into a a|into b a", "a b", "b/ b/c*x l>to | b/ b/c*x l>to"},
		{three + "into b a", "a b", "fault 5 at 0"},
		{three + "into a a", "a b", "fault 5 at 0"},
		{three + "into a nope", "a b", "fault 3 at 0"},
		{three + "into b nope", "a b", "fault 5 at 0"},
		{three + "into a a|into b a/b|into c a/b/c|into d a/l|into e a", "a b c d e", "b/ b/c*x l>to | c*x | c*x | l>to | b/ b/c*x l>to"},
		{"", "out", ""},
		{"into doc a", "doc out", "fault 3 at 0"},
	} {
		outputs := strings.Fields(row.outputs)
		b := buildRow(row.program, outputs...)
		if got := shownBuilt(b); got != row.shown {
			t.Errorf("%q with %s: %q, not %q", row.program, row.outputs, got, row.shown)
		}
		if b.Code != impl.BuildOk {
			continue
		}
		d := drvOf(row.program, outputs...)
		for i, out := range b.Outs {
			if out.Name != outputs[i] || out.Path != impl.OutPath(d, out.Name) || out.Path == "" {
				t.Errorf("%q: the output %d is %s at %s", row.program, i, out.Name, out.Path)
			}
		}
	}
}

func TestFixed(t *testing.T) {
	for _, row := range []struct{ program, tree string }{
		{"", ""}, {"write a 'x'", "a=x"}, {"mkdir a|write a/b 'x'|into out a", "b=x"}, {"write a 'x'|into out a", "a=x"}, {"write a 'x'|exec a", "a*x"},
	} {
		for _, fixed := range []string{"", "a=x", "b=x", "a*x"} {
			d := drvOf("log '1'|"+row.program, "out")
			d.Fixed = impl.TreeSum(entriesOf(fixed))
			b := impl.Build(d, nil, nil, 10)
			if fixed != row.tree {
				if !same(b, impl.Built{Code: impl.BuildFixed, Log: []string{"1"}}) {
					t.Errorf("%q is %q, not %q: %+v", row.program, row.tree, fixed, b)
				}
			} else if b.Code != impl.BuildOk || shownBuilt(b) != row.tree || b.Outs[0].Path != impl.OutPath(d, "out") {
				t.Errorf("%q is %q: %+v", row.program, row.tree, b)
			}
		}
	}
	d := drvOf("into out a", "out")
	d.Fixed = impl.TreeSum(nil)
	if b := impl.Build(d, nil, nil, 10); !same(b, impl.Built{Code: impl.BuildNone}) {
		t.Errorf("what is not there: %+v", b)
	}
}

func TestBuildArgs(t *testing.T) {
	d := drvOf("log 'x'", "out")
	declared, given := roomGiven()
	many := []string{}
	for i := range 2001 {
		many = append(many, impl.Address("out", fmt.Sprintf("n%d", i), nil))
	}
	slices.Sort(many)
	manyGiven := []impl.Given{}
	for _, address := range many {
		manyGiven = append(manyGiven, impl.Given{Path: address, Tree: entriesOf("a=x")})
	}
	if b := impl.Build(d, many[:2000], manyGiven[:2000], 1); b.Code != impl.BuildOk {
		t.Errorf("MaxMany of both: %d", b.Code)
	}
	if b := impl.Build(drvOf("need @"+many[1999]+"/a|copy @"+many[0]+" x", "out"), many[:2000], manyGiven[:2000], 2); shownBuilt(b) != "x/ x/a=x" {
		t.Errorf("the first and the last of MaxMany: %s", shownBuilt(b))
	}
	d.Inputs = []impl.Uses{{Drv: usedDrvs[0], Output: "out"}}
	can := func(what string, d impl.Drv, declared []string, given []impl.Given) {
		t.Helper()
		if b := impl.Build(d, declared, given, 10); !same(b, impl.Built{Code: impl.BuildArgs}) {
			t.Errorf("%s: %+v", what, b)
		}
		if impl.BuildTwice(d, declared, given, 10) {
			t.Errorf("%s is built twice", what)
		}
	}
	can("one declared too many", d, many, nil)
	can("one given too many", d, nil, manyGiven)
	for _, list := range [][]string{{many[1], many[0]}, {many[0], many[0]}, {many[0], many[2], many[1]}, {""}, {"a"}, {many[0][:13]}, {"a" + many[0]}, {many[0], many[1] + "/x"}, {"@" + many[0]}, {many[0][:13] + "-.a"}} {
		can(fmt.Sprintf("declared %q", list), d, list, given)
		can(fmt.Sprintf("declared %q", list), d, list, nil)
		paths := []impl.Given{}
		for _, path := range list {
			paths = append(paths, impl.Given{Path: path})
		}
		can(fmt.Sprintf("given %q", list), d, declared, paths)
		can(fmt.Sprintf("given %q", list), d, nil, paths)
	}
	for _, list := range []string{"b= a=", "a= a=", "a/b=", ".a=", "a>", "a/ a/"} {
		can("a tree "+list, d, declared, []impl.Given{{Path: many[0], Tree: entriesOf(list)}})
		can("a last tree "+list, d, nil, []impl.Given{{Path: many[0]}, {Path: many[1], Tree: entriesOf(list)}})
	}
	for what, change := range map[string]func(d *impl.Drv){
		"no name":            func(d *impl.Drv) { d.Name = "" },
		"no outputs":         func(d *impl.Drv) { d.Outputs = nil },
		"outputs not sorted": func(d *impl.Drv) { d.Outputs = []string{"out", "doc"} },
		"a tab":              func(d *impl.Drv) { d.Builder = "log\t\"x\"" },
		"a long program":     func(d *impl.Drv) { d.Builder = strings.Repeat("\n", 4001) },
		"a key twice":        func(d *impl.Drv) { d.Env = append(d.Env, d.Env[len(d.Env)-1]) },
		"no sum":             func(d *impl.Drv) { d.Fixed = "x" },
		"an input that is none": func(d *impl.Drv) {
			d.Inputs = []impl.Uses{{Drv: "x", Output: "out"}}
		},
		"sources not sorted": func(d *impl.Drv) { d.Sources = []string{many[1], many[0]} },
	} {
		bad := d
		bad.Env = slices.Clone(d.Env)
		change(&bad)
		can(what, bad, declared, given)
		bad.Builder = strings.Replace(bad.Builder, "log", "need @"+oneAddress+" ", 1)
		if reads := impl.Reads(bad); len(reads) > 0 {
			t.Errorf("%s reads %q", what, reads)
		}
	}
	if b := impl.Build(d, declared, given, 10); b.Code != impl.BuildOk {
		t.Errorf("what can be: %+v", b)
	}
	if b := impl.Build(impl.Drv{}, nil, nil, 0); !same(b, impl.Built{Code: impl.BuildArgs}) {
		t.Errorf("the zero derivation: %+v", b)
	}
}

func TestBuildLimits(t *testing.T) {
	type row struct {
		program string
		tree    []impl.Entry
		code    int64
		line    int64
	}
	deep := entriesOf("1/ 1/2/ 1/2/3/ 1/2/3/4/ 1/2/3/4/5/ 1/2/3/4/5/6/ 1/2/3/4/5/6/7/ 1/2/3/4/5/6/7/8=x")
	data := func(n int, end string) []impl.Entry {
		return []impl.Entry{{Path: "f", Kind: 2, Data: strings.Repeat("x", n-len(end)) + end}}
	}
	for _, r := range []row{
		{"copy @1 a", manyEntries(499), 0, 0},
		{"copy @1 a", manyEntries(500), impl.BuildTree, 1},
		{"copy @1 a|copy @1 a|mkdir a", manyEntries(499), 0, 0},
		{"copy @1 a|mkdir b", manyEntries(499), impl.BuildTree, 2},
		{"copy @1 a|mkdir b|mkdir c", manyEntries(498), impl.BuildTree, 3},
		{"copy @1 a|mkdir b/c", manyEntries(498), impl.BuildTree, 2},
		{"copy @1 a|write b ''", manyEntries(499), impl.BuildTree, 2},
		{"copy @1 a|link b 'x'", manyEntries(499), impl.BuildTree, 2},
		{"copy @1 a|env b v", manyEntries(499), impl.BuildTree, 2},
		{"write b ''|copy @1 a|write b 'x'|env b v|link b 'x'|cut b|mkdir b|write b ''|join b b|swap b v|exec b|copy b b", manyEntries(498), 0, 0},
		{"write b ''|copy @1 a|move b c", manyEntries(498), impl.BuildTree, 3},
		{"write b ''|copy @1 a|move b c", manyEntries(497), 0, 0},
		{"copy @1 a|copy a b", manyEntries(249), 0, 0},
		{"copy @1 a|copy a b", manyEntries(250), impl.BuildTree, 2},
		{"copy @1 a", deep, impl.BuildTree, 1},
		{"copy @1/1 a|mkdir b|copy @1/1/2 b/2|same a/2 b/2", deep, 0, 0},
		{"copy @1/1 a|copy a b/c", deep, impl.BuildTree, 2},
		{"copy @1/1 a|mkdir b|copy a b/c", deep, impl.BuildTree, 3},
		{"copy @1/1 a|copy a a/b", deep, impl.BuildTree, 2},
		{"copy @1/1 a|mkdir b|move a b/c", deep, impl.BuildTree, 3},
		{"need @1/1/2/3/4/5/6/7/8", deep, 0, 0},
		{"mkdir 1/2/3/4/5/6/7|write 1/2/3/4/5/6/7/8 'x'|copy 1 1/2", nil, impl.BuildTree, 3},
		{"join a @1/f @1/f", data(10000, ""), 0, 0},
		{"write b 'x'|join a @1/f b @1/f", data(10000, ""), impl.BuildTree, 2},
		{"join a @1/f", data(20000, ""), 0, 0},
		{"join a @1/f @1/f", data(20000, ""), impl.BuildTree, 1},
		{"copy @1/f f|swap f v", data(20000, "@v@"), 0, 0},
		{"copy @1/f f|swap f k.1", data(20000, "@k.1@"), 0, 0},
		{"copy @1/f f|swap f w", data(20000, "@v@"), 0, 0},
		{"copy @1/f f|swap f w", data(19998, "@w@"), 0, 0},
		{"copy @1/f f|swap f w", data(19999, "@w@"), impl.BuildTree, 2},
		{"copy @1/f f|swap f w", data(20000, "@w@"), impl.BuildTree, 2},
	} {
		d := drvOf(r.program, "out")
		given := []impl.Given{{Path: oneAddress, Tree: r.tree}}
		b := impl.Build(d, []string{oneAddress}, given, 100)
		if b.Code != r.code || b.Line != r.line {
			t.Errorf("%q with %d entries: %d at %d", r.program, len(r.tree), b.Code, b.Line)
		}
		if want := plainBuild(d, []string{oneAddress}, given, 100); !same(b, want) {
			t.Errorf("%q with %d entries is not as in plain words", r.program, len(r.tree))
		}
	}
	big := strings.Repeat("join a a a\n", 20)
	if b := impl.Build(impl.Drv{Name: "p", Outputs: []string{"out"}, Builder: "write a \"x\"\n" + big}, nil, nil, 100); b.Code != impl.BuildTree || b.Line != 16 {
		t.Error("twice as much each time:", b.Code, b.Line)
	}
}

func TestTheGreatestPrograms(t *testing.T) {
	given := []impl.Given{{Path: oneAddress, Tree: manyEntries(249)}}
	for i := range given[0].Tree {
		if given[0].Tree[i].Kind == 2 {
			given[0].Tree[i].Data = strings.Repeat("@v@", 6666)
		}
	}
	copies := programOf("copy @1 a|") + strings.Repeat("copy a b\n", 436)
	if b := impl.Build(impl.Drv{Name: "p", Outputs: []string{"out"}, Builder: copies}, []string{oneAddress}, given, 10000); b.Code != impl.BuildOk || len(b.Outs[0].Tree) != 500 {
		t.Error("many copies:", b.Code, b.Line)
	}
	d := impl.Drv{Name: "p", Outputs: []string{"out"}, Builder: "write a \"" + strings.Repeat("@v@", 1300) + "\"\njoin a a a a a a\nswap a v", Env: []impl.Pair{{Key: "v", Value: strings.Repeat("v", 4000)}}}
	if b := impl.Build(d, nil, nil, 10000); b.Code != impl.BuildTree || b.Line != 3 {
		t.Error("a great swap:", b.Code, b.Line)
	}
	d.Builder = "env a v\njoin a a a a a a\njoin b" + strings.Repeat(" a", 1900)
	if b := impl.Build(d, nil, nil, 10000); b.Code != impl.BuildTree || b.Line != 3 {
		t.Error("a great join:", b.Code, b.Line)
	}
}

// agrees holds a build, and all that is said of it elsewhere, against plain words.
func agrees(t *testing.T, d impl.Drv, declared []string, given []impl.Given, steps int64) impl.Built {
	t.Helper()
	b := impl.Build(d, declared, given, steps)
	if want := plainBuild(d, declared, given, steps); !same(b, want) {
		t.Fatalf("%q, %q, %d steps, %q:\n%+v, not\n%+v", d.Builder, d.Outputs, steps, d.Fixed, b, want)
	}
	return b
}

func TestEveryLine(t *testing.T) {
	const start = "mkdir d|write d/f '@v@'|mkdir d/d|link l 'to'|write f '@v@v@'|exec f|mkdir e|"
	vocabulary := strings.Fields("d d/f d/d e e/n l l/n f f/n n n/m @1 @1/lib @1/lib/x @1/q @2 @3 @4/x @ v e nope out 'x' '' / d/d/n/m")
	declared, given := roomGiven()
	ended := map[int64]int{}
	see := func(words ...string) {
		b := agrees(t, drvOf(start+strings.Join(words, " "), "out"), declared, given, 9)
		ended[b.Code]++
	}
	for _, command := range strings.Fields("mkdir write env copy join swap exec link cut move need same when log fail into foo") {
		see(command)
		for _, first := range vocabulary {
			see(command, first)
			for _, second := range vocabulary {
				see(command, first, second)
				if command == "join" {
					for _, third := range []string{"f", "d/f", "@1/lib/x", "@1/lib", "@3", "n", "'x'"} {
						see(command, first, second, third)
					}
				}
			}
		}
		see(command, "d/f", "v", "f")
	}
	for _, code := range []int64{impl.BuildOk, impl.BuildNone, impl.BuildForm, impl.BuildName, impl.BuildKind, impl.BuildDiffer, impl.BuildFail, impl.BuildHidden, impl.BuildTree} {
		if ended[code] < 2 {
			t.Error("hardly a line ends with", code, ended)
		}
	}
}

// A programMaker writes programs of which most lines work.
type programMaker struct {
	*rand.Rand
	addresses []string
}

func (m programMaker) one(of ...string) string { return of[m.Intn(len(of))] }

func (m programMaker) path() string {
	path := m.one("a", "b", "c")
	for m.Intn(2) == 0 && len(path) < 7 {
		path += m.one("/a", "/b", "/c")
	}
	return path
}

func (m programMaker) place() string {
	if m.Intn(3) > 0 {
		return m.path()
	}
	place := "@" + m.one(m.addresses...)
	if m.Intn(3) > 0 {
		place += "/" + m.path()
	}
	return place
}

func (m programMaker) line() string {
	text := impl.ShowText(m.one("", "x", "@v@", "a b", "\"@e@ @v@@v@\\", "\n\t"))
	key := m.one("v", "v", "w", "e", "nope")
	switch m.Intn(22) {
	case 0, 1, 2:
		return "mkdir " + m.path()
	case 3, 4:
		return "write " + m.path() + " " + text
	case 5:
		return "env " + m.path() + " " + key
	case 6, 7, 8:
		return "copy " + m.place() + " " + m.path()
	case 9:
		return "join " + m.path() + strings.Repeat(" "+m.place(), 1+m.Intn(2)) + m.one("", " "+m.place())
	case 10:
		return "swap " + m.path() + " " + key
	case 11:
		return "exec " + m.path()
	case 12:
		return "link " + m.path() + " " + text
	case 13:
		return "cut " + m.path()
	case 14:
		return "move " + m.path() + " " + m.path()
	case 15:
		return "need " + m.place()
	case 16:
		return "same " + m.place() + " " + m.place()
	case 17:
		return "when " + key
	case 18:
		return m.one("log ", "log ", "fail ") + text
	case 19, 20:
		return "into " + m.one("out", "doc", "a", "z") + " " + m.path()
	}
	return m.one("", " ", "  ", "foo", "mkdir", "log x", "copy @"+m.one(m.addresses...)+" .x", "log \"@"+m.one(m.addresses...)+"\"")
}

func (m programMaker) program(d impl.Drv, declared []string, given []impl.Given) string {
	r := plainRoom{d: d, declared: declared, given: given, origins: map[string]string{}}
	lines := []string{}
	for range m.Intn(30) {
		line := m.line()
		next := r
		next.log, next.origins = slices.Clone(r.log), maps.Clone(r.origins)
		words := plainLine(line)
		works := strings.Trim(line, " ") == "" || words != nil && next.do(words) == impl.BuildOk && !next.over
		if !works && m.Intn(40) > 0 {
			continue
		}
		r = next
		r.over = false
		if m.Intn(8) == 0 {
			line = " " + strings.Replace(line, " ", "  ", 1) + " "
		}
		lines = append(lines, line)
	}
	return strings.Join(lines, "\n") + m.one("", "\n")
}

func TestBuildByChance(t *testing.T) {
	m := programMaker{rand.New(rand.NewSource(8)), []string{oneAddress, twoAddress, threeAddress, fourAddress}}
	slices.Sort(m.addresses)
	trees := treeMaker{m.Rand}
	ended, looked := map[int64]int{}, 0
	for range 12000 {
		declared, given := []string{}, []impl.Given{}
		for _, address := range m.addresses {
			if m.Intn(5) > 0 {
				declared = append(declared, address)
			}
			if m.Intn(5) > 0 {
				given = append(given, impl.Given{Path: address, Tree: trees.tree(8)})
			}
		}
		outputs := strings.Fields(m.one("out", "out", "doc out", "a", "a out z", "a z"))
		d := impl.Drv{Name: "p", Outputs: outputs, Env: []impl.Pair{{Key: "e"}, {Key: "v", Value: m.one("1", "@v@", "x")}, {Key: "w", Value: m.one("", "w")}}}
		d.Builder = m.program(d, declared, given)
		for i, name := range outputs {
			if m.Intn(4) > 0 && i < 2 {
				d.Builder += "\ninto " + name + " " + m.one("a", "b", m.path())
			}
		}
		steps := int64(200)
		if m.Intn(10) == 0 {
			steps = int64(m.Intn(30))
		}
		b := agrees(t, d, declared, given, steps)
		ended[b.Code]++
		if twice := impl.BuildTwice(d, declared, given, steps); twice != (b.Code == impl.BuildOk) {
			t.Fatalf("%q ends with %d, and twice %v", d.Builder, b.Code, twice)
		}
		reads := impl.Reads(d)
		if want := plainReads(d.Builder); !slices.Equal(reads, want) {
			t.Fatalf("%q reads %q, not %q", d.Builder, reads, want)
		}
		looked += len(reads)
		seen := slices.DeleteFunc(slices.Clone(given), func(g impl.Given) bool {
			return !slices.Contains(reads, g.Path) || !slices.Contains(declared, g.Path)
		})
		if again := impl.Build(d, declared, seen, steps); !same(again, b) {
			t.Fatalf("%q with what it reads alone: %+v, not %+v", d.Builder, again, b)
		}
		if b.Code == impl.BuildOk && slices.Equal(outputs, []string{"out"}) {
			d.Fixed = m.one(impl.TreeSum(b.Outs[0].Tree), impl.TreeSum(entriesOf("a=other")))
			ended[agrees(t, d, declared, given, steps).Code]++
		}
	}
	for code := range int64(impl.BuildFixed + 1) {
		if code != impl.BuildArgs && ended[code] < 10 {
			t.Error("hardly a program ends with", code, ended)
		}
	}
	if ended[impl.BuildOk] < 3000 || looked < 2000 {
		t.Error("few programs end well, or look at what is given:", ended, looked)
	}
}

func TestBuildTwice(t *testing.T) {
	declared, given := roomGiven()
	for row, want := range map[string]bool{
		"": true, "copy @1 a|log 'x'": true, "when e|foo": true, "into out a|mkdir a": true,
		"foo": false, "fail 'x'": false, "need @3": false, "need a": false, "into out a": false,
	} {
		if got := impl.BuildTwice(drvOf(row, "out"), declared, given, 2); got != want {
			t.Errorf("%q twice: %v", row, got)
		}
	}
	d := drvOf("mkdir a|mkdir b", "out")
	for steps, want := range map[int64]bool{-1: false, 0: false, 1: false, 2: true, 10000: true, 10001: false} {
		if got := impl.BuildTwice(d, declared, given, steps); got != want {
			t.Errorf("twice in %d steps: %v", steps, got)
		}
	}
	d.Fixed = impl.TreeSum(entriesOf("a/"))
	if impl.BuildTwice(d, nil, nil, 2) {
		t.Error("another sum than the fixed one, twice")
	}
	if d.Fixed = impl.TreeSum(entriesOf("a/ b/")); !impl.BuildTwice(d, nil, nil, 2) {
		t.Error("the fixed sum is not built twice")
	}
}

func TestReads(t *testing.T) {
	for _, row := range []struct{ program, reads string }{
		{"", ""}, {"mkdir a", ""}, {"copy a b", ""},
		{"copy @1 a", "1"}, {"copy @1/lib a", "1"}, {"need @2", "2"}, {"need @3/a/b", "3"},
		{"same @1 @2", "12"}, {"same a @2", "2"}, {"same @2/x a", "2"}, {"join a @1/x b @2/y @1/z", "12"}, {"  join   a   b   @4  ", "4"},
		{"need @2|need @1|need @2|copy @1/x y", "12"},
		{"when e|need @1|fail 'x'|need @2", "12"}, {"fail 'x'||  |need @3", "3"},
		{"need @1 @2", ""}, {"need", ""}, {"copy @1", ""}, {"copy @1 @2", ""}, {"copy @1 a//b", ""}, {"copy @1 a b", ""}, {"same @1", ""}, {"same @1 @", ""}, {"same @1 @2 @3", ""},
		{"join @1 @2", ""}, {"join a @1 .b", ""}, {"join a @1 'x'", ""}, {"need @1/", ""}, {"need @1/.a", ""}, {"need @1-", "1-"}, {"foo @1", ""}, {"@1", ""}, {"need '@1'", ""},
		{"log '@1'", ""}, {"write a '@1'", ""}, {"write a '@1/x'|link b '@2'|fail '@3'", ""}, {"log 'need @1'", ""}, {"log 'x|need @1", "1"}, {"move @1 a", ""}, {"cut @1", ""}, {"mkdir @1", ""}, {"into out @1", ""}, {"env @1 v", ""}, {"exec @1/run", ""},
		{"NEED @1", ""}, {"need @1 # note", ""}, {"need @1|foo|need @2", "12"}, {"move a a/b|need @1", "1"}, {"env a nope|need @1", "1"},
		{"need @1/1/2/3/4/5/6/7/8", "1"}, {"need @1/1/2/3/4/5/6/7/8/9", ""},
	} {
		want := []string{}
		for i, address := range []string{oneAddress, twoAddress, threeAddress, fourAddress} {
			if row.reads == "1-" && i == 0 {
				want = append(want, oneAddress+"-")
			} else if strings.Contains(row.reads, fmt.Sprint(i+1)) {
				want = append(want, address)
			}
		}
		slices.Sort(want)
		if got := impl.Reads(drvOf(row.program, "out")); !slices.Equal(got, want) {
			t.Errorf("%q reads %q, not %q", row.program, got, want)
		}
		if plain := plainReads(programOf(row.program)); !slices.Equal(plain, want) {
			t.Errorf("%q reads %q in plain words, not %q", row.program, plain, want)
		}
	}
	if got := impl.Reads(impl.Drv{Builder: programOf("need @1")}); len(got) > 0 {
		t.Error("a derivation that can't be reads", got)
	}
	names := []string{}
	program := ""
	for i := range 150 {
		names = append(names, impl.Address("out", fmt.Sprint(i), nil))
		program += "need @" + names[i] + "\n"
	}
	slices.Sort(names)
	if got := impl.Reads(impl.Drv{Name: "p", Outputs: []string{"out"}, Builder: program}); !slices.Equal(got, names) {
		t.Errorf("of %d addresses %d are read", len(names), len(got))
	}
}

func TestBuildsAreNewMemory(t *testing.T) {
	const whole = "log 'some text'|log ''|copy @1 a|write a/long '@w@ and more'|swap a/long w|env b w|link c 'to it'|mkdir longer/path|join longer/path/all b @1/lib/x|move c d|into doc a|into lib b|"
	declaredPlain, givenPlain := roomGiven()
	for _, row := range []struct {
		program string
		steps   int64
	}{
		{whole, 100}, {whole + "cut a", 100}, {whole + "fail 'in the end'", 100}, {whole + "copy @1 longer", 100}, {whole + "into doc longer|into lib longer/path|into out longer", 100}, {whole, 5}, {whole, -1}, {whole + "into doc nope", 100},
	} {
		d, drvStays := roomyAll(drvOf(row.program, "doc", "lib", "out"))
		declared, declaredStays := roomyAll(declaredPlain)
		given, givenStays := roomyAll(givenPlain)
		for name, call := range map[string]func() any{
			"Build":      func() any { return impl.Build(d, declared, given, row.steps) },
			"BuildTwice": func() any { return impl.BuildTwice(d, declared, given, row.steps) },
			"Reads":      func() any { return impl.Reads(d) },
		} {
			answer := call()
			if !isNew(answer, d, declared, given) {
				t.Errorf("%s of %q shares memory with an argument, or among its lists", name, row.program)
			}
			before := fmt.Sprintf("%q", answer)
			for _, other := range []string{"", "mkdir a|log 'other'|copy @1 b", whole + "cut a"} {
				buildRow(other, "out")
				impl.Reads(drvOf(other, "out"))
			}
			later := call()
			if fmt.Sprintf("%q", answer) != before || !same(answer, later) || !isNew([]any{answer, later}) {
				t.Errorf("%s of %q is changed by a later call, or is another one", name, row.program)
			}
			if !drvStays() || !declaredStays() || !givenStays() {
				t.Fatalf("%s of %q writes into an argument", name, row.program)
			}
		}
	}
}

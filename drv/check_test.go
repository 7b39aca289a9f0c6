package drv_test

import (
	"fmt"
	"slices"
	"strings"
	"testing"

	"pantry/api"
	"pantry/drv"
	"pantry/path"
)

// goods are derivations at the edges of what is one.
func goods() map[string]api.Drv {
	named76 := plain()
	named76.Name = strings.Repeat("n", api.MaxName-4)
	many := plain()
	many.Outputs = nil
	for i := range api.MaxOuts {
		many.Outputs = append(many.Outputs, api.Output{Name: fmt.Sprint("o", i+10), Path: named("o")})
	}
	alone := plain()
	alone.Outputs = []api.Output{{Name: "doc", Path: named("doc")}}
	nought := plain()
	nought.Outputs = []api.Output{{Name: "out", Fixed: true}}
	empty := plain()
	empty.System, empty.Builder, empty.Args, empty.Env, empty.Inputs, empty.Sources = "", "", []string{}, []api.Var{}, []api.Input{}, []api.Path{}
	both := plain()
	both.Inputs = []api.Input{{Drv: named("x.drv"), Outs: []string{"?"}}}
	both.Sources = []api.Path{named("x.drv")}
	short := plain()
	short.Inputs = []api.Input{{Drv: named("a.drv"), Outs: []string{strings.Repeat("o", api.MaxName)}}}
	short.Env = []api.Var{{Name: "\x00", Value: "\xff"}, {Name: " "}, {Name: "a"}, {Name: "a\x00"}, {Name: "\xff"}}
	return map[string]api.Drv{"plain": plain(), "rich": rich(), "fixed": fixed(), "named76": named76, "many": many, "alone": alone, "nought": nought, "empty": empty, "both": both, "short": short}
}

// P14.1, P14.2: what is a derivation, and its text.
func TestGoods(t *testing.T) {
	for name, d := range goods() {
		if e := drv.Check(d); e != api.OK {
			t.Errorf("%s: error %d", name, e)
		}
		prints(t, d, textOf(d))
	}
}

// P14.1: each fault alone; W3: with an error all else is zero.
func TestFaults(t *testing.T) {
	for _, f := range faults() {
		t.Run(f.name, func(t *testing.T) {
			d := rich()
			f.turn(&d)
			refuses(t, d, f.e)
			isNone(t, textOf(d))
		})
	}
	refuses(t, api.Drv{}, api.ErrName)
}

// P14.1, W4: of two faults the one that is named first is told.
func TestOrderOfFaults(t *testing.T) {
	all := faults()
	for i, first := range all {
		for _, second := range all[i+1:] {
			d := rich()
			second.turn(&d)
			first.turn(&d)
			if e := drv.Check(d); e != first.e {
				t.Errorf("%s, and %s: error %d, not %d", first.name, second.name, e, first.e)
			}
		}
	}
}

// P14.1: one output more than there may be, whatever else it is.
func TestManyOutputs(t *testing.T) {
	d := goods()["many"]
	d.Outputs = append(d.Outputs, api.Output{Name: "z"})
	refuses(t, d, api.ErrArg)
	isNone(t, textOf(d))
	d.Outputs = make([]api.Output, api.MaxOuts+1)
	refuses(t, d, api.ErrArg)
	d.Outputs = make([]api.Output, api.MaxOuts)
	refuses(t, d, api.ErrName)
}

// P14.1: an input's outs are asked one by one, so the first that is wrong tells its error.
func TestOuts(t *testing.T) {
	for _, x := range []struct {
		outs []string
		e    api.Errno
	}{
		{[]string{"b", "a", "/"}, api.ErrForm}, {[]string{"b", "/", "a"}, api.ErrName}, {[]string{"/", "/"}, api.ErrName},
		{[]string{"a", "a"}, api.ErrForm}, {[]string{"a", "b", "c", "b"}, api.ErrForm}, {[]string{"a", "b", "c", "d"}, api.OK},
	} {
		d := rich()
		d.Inputs[0].Outs = x.outs
		answers(t, drv.Check(d), x.e)
	}
}

// P14.1: Fixed beside another one, ahead of it or behind it, or called otherwise than out.
func TestFixed(t *testing.T) {
	for _, outs := range [][]api.Output{
		{{Name: "out", Fixed: true}, {Name: "z"}},
		{{Name: "a"}, {Name: "out", Fixed: true}},
		{{Name: "out", Fixed: true}, {Name: "z", Fixed: true}},
		{{Name: "dev", Fixed: true, Hash: api.Hash{1}}},
		{{Name: "ou", Fixed: true}},
		{{Name: "outs", Fixed: true}},
	} {
		d := plain()
		d.Outputs = outs
		refuses(t, d, api.ErrForm)
		isNone(t, textOf(d))
	}
}

// P14.1: a Hash must be zero in each of its bytes where an output is not Fixed.
func TestHashOfNotFixed(t *testing.T) {
	for i := range len(api.Hash{}) {
		d := plain()
		d.Outputs[0].Hash[i] = 1
		refuses(t, d, api.ErrForm)
	}
}

// P14.1: names of any length and of any byte, of derivations, outputs and outs.
func TestNames(t *testing.T) {
	names := []string{"", ".", ".a", "a/b", "\x00", "é", strings.Repeat("x", 1<<20)}
	for c := range 256 {
		names = append(names, string([]byte{byte(c)}), string([]byte{'a', byte(c)}))
	}
	for n := range api.MaxName + 3 {
		names = append(names, strings.Repeat("n", n))
	}
	for _, name := range names {
		want, wantName := api.OK, api.OK
		if !path.IsName(name) {
			want = api.ErrName
		}
		if !path.IsName(name) || len(name) > api.MaxName-4 {
			wantName = api.ErrName
		}
		d := plain()
		d.Outputs[0].Name = name
		answers(t, drv.Check(d), want)
		d = rich()
		d.Inputs[0].Outs = []string{name}
		answers(t, drv.Check(d), want)
		d = plain()
		d.Name = name
		answers(t, drv.Check(d), wantName)
	}
}

// P14.1: which texts are paths, of derivations or others.
func TestPaths(t *testing.T) {
	digits := strings.Repeat("1", 32)
	for p, e := range map[api.Path][3]api.Errno{ // as an output's, a source's, an input's
		"":                                {api.OK, api.ErrForm, api.ErrForm},
		"x":                               {api.ErrForm, api.ErrForm, api.ErrForm},
		".drv":                            {api.ErrForm, api.ErrForm, api.ErrForm},
		named("x"):                        {api.OK, api.OK, api.ErrForm},
		named("x.drv"):                    {api.OK, api.OK, api.OK},
		named("x.drv.drv"):                {api.OK, api.OK, api.OK},
		named("x.Drv"):                    {api.OK, api.OK, api.ErrForm},
		named("xdrv"):                     {api.OK, api.OK, api.ErrForm},
		named("drv"):                      {api.OK, api.OK, api.ErrForm},
		named("x.drv-dev"):                {api.OK, api.OK, api.ErrForm},
		named("x.dr"):                     {api.OK, api.OK, api.ErrForm},
		api.Path(digits + "-.drv"):        {api.ErrForm, api.ErrForm, api.ErrForm},
		api.Path(digits + "-"):            {api.ErrForm, api.ErrForm, api.ErrForm},
		api.Path(digits + ".drv"):         {api.ErrForm, api.ErrForm, api.ErrForm},
		api.Path(digits[1:] + "-x.drv"):   {api.ErrForm, api.ErrForm, api.ErrForm},
		api.Path(digits + "1-x.drv"):      {api.ErrForm, api.ErrForm, api.ErrForm},
		api.Path(digits[1:] + "e-x.drv"):  {api.ErrForm, api.ErrForm, api.ErrForm},
		api.Path(digits + "-x/y.drv"):     {api.ErrForm, api.ErrForm, api.ErrForm},
		api.Path("/" + digits + "-x.drv"): {api.ErrForm, api.ErrForm, api.ErrForm},
		api.Path(digits + "-" + strings.Repeat("n", api.MaxName-4) + ".drv"): {api.OK, api.OK, api.OK},
		api.Path(digits + "-" + strings.Repeat("n", api.MaxName-3) + ".drv"): {api.ErrForm, api.ErrForm, api.ErrForm},
		api.Path(strings.Repeat("x", 1<<20) + ".drv"):                        {api.ErrForm, api.ErrForm, api.ErrForm},
	} {
		for i, turn := range []func(d *api.Drv){
			func(d *api.Drv) { d.Outputs[0].Path = p },
			func(d *api.Drv) { d.Sources = []api.Path{p} },
			func(d *api.Drv) { d.Inputs = []api.Input{{Drv: p, Outs: []string{"out"}}} },
		} {
			d := plain()
			turn(&d)
			if got := drv.Check(d); got != e[i] {
				t.Errorf("%.200q at %d: error %d, not %d", p, i, got, e[i])
			}
		}
	}
}

// P14.1: an order is byte by byte.
func TestBytesRise(t *testing.T) {
	digits := strings.Repeat("1", 32)
	texts := []string{"+", "-", "0", "9", "=", "?", "A", "Z", "Za", "_", "a", "a+", "aa", "z"}
	input := func(s string) api.Input {
		return api.Input{Drv: api.Path(digits + "-" + s + ".drv"), Outs: []string{"out"}}
	}
	for _, a := range texts {
		for _, b := range texts {
			d := rich()
			d.Outputs = []api.Output{{Name: a}, {Name: b}}
			rises(t, d, a < b)
			d = rich()
			d.Inputs[1].Outs = []string{a, b}
			rises(t, d, a < b)
			d = rich()
			d.Inputs = []api.Input{input(a), input(b)}
			rises(t, d, a+".drv" < b+".drv")
			d = rich()
			d.Sources = []api.Path{api.Path(digits + "-" + a), api.Path(digits + "-" + b)}
			rises(t, d, a < b)
			d = rich()
			d.Env = []api.Var{{Name: a, Value: "v"}, {Name: b, Value: "w"}}
			rises(t, d, a < b)
		}
	}
}

// rises holds Check against whether all of d rises.
func rises(t *testing.T, d api.Drv, rises bool) {
	t.Helper()
	if e := drv.Check(d); (e == api.OK) != rises || e != api.OK && e != api.ErrForm {
		t.Errorf("%v: error %d", d, e)
	}
}

// P14.1: a text of MaxText bytes, and of one more, wherever the bytes stand; where one has a backslash ahead it is two.
func TestLongTexts(t *testing.T) {
	for name, turn := range map[string]func(d *api.Drv, s string){
		"System":        func(d *api.Drv, s string) { d.System = s },
		"Builder":       func(d *api.Drv, s string) { d.Builder = s },
		"Args":          func(d *api.Drv, s string) { d.Args = append(d.Args, s) },
		"a Var's Name":  func(d *api.Drv, s string) { d.Env = append(d.Env, api.Var{Name: "z" + s}) },
		"a Var's Value": func(d *api.Drv, s string) { d.Env[0].Value = s },
	} {
		for _, c := range []string{"a", "\x00", "\xff", "\"", "\\", "\n", "\r", "\t"} {
			d := rich()
			turn(&d, "")
			room := api.MaxText - len(textOf(d))
			each := len(textOf(api.Drv{System: c})) - len(textOf(api.Drv{}))
			s := strings.Repeat(c, room/each) + strings.Repeat("a", room%each)
			d = rich()
			turn(&d, s)
			if len(textOf(d)) != api.MaxText {
				t.Fatalf("%s: %d bytes", name, len(textOf(d)))
			}
			prints(t, d, textOf(d))
			isNone(t, textOf(d)+" ")
			d = rich()
			turn(&d, s+"a")
			refuses(t, d, api.ErrLong)
			isNone(t, textOf(d))
		}
	}
}

// P14.1: texts of many short things, of MaxText bytes and of one more.
func TestManyThings(t *testing.T) {
	for name, turn := range map[string]func(d *api.Drv, i int){
		"Args":    func(d *api.Drv, i int) { d.Args = append(d.Args, "") },
		"Env":     func(d *api.Drv, i int) { d.Env = append(d.Env, api.Var{Name: fmt.Sprintf("x%06d", i)}) },
		"Outs":    func(d *api.Drv, i int) { d.Inputs[1].Outs = append(d.Inputs[1].Outs, fmt.Sprintf("z%06d", i)) },
		"Sources": func(d *api.Drv, i int) { d.Sources = append(d.Sources, api.Path(fmt.Sprintf("5%031d-s", i))) },
		"Inputs": func(d *api.Drv, i int) {
			d.Inputs = append(d.Inputs, api.Input{Drv: api.Path(fmt.Sprintf("5%031d-i.drv", i)), Outs: []string{"o"}})
		},
	} {
		d := rich()
		size := len(textOf(d))
		turn(&d, 0)
		each := len(textOf(d)) - size
		for i := range (api.MaxText - size - each) / each {
			turn(&d, i+1)
		}
		room := api.MaxText - len(textOf(d))
		if room < 0 || room >= each {
			t.Fatalf("%s: room of %d bytes", name, room)
		}
		d.System += strings.Repeat("s", room)
		prints(t, d, textOf(d))
		more := copied(d)
		more.System += "s"
		refuses(t, more, api.ErrLong)
		turn(&d, api.MaxText)
		refuses(t, d, api.ErrLong)
	}
}

// W1: what is much too long ends soon, though texts are shared.
func TestEnds(t *testing.T) {
	long := strings.Repeat("\\", 1<<24)
	d := rich()
	d.Args = slices.Repeat([]string{long}, 1<<16)
	d.System = long
	refuses(t, d, api.ErrLong)
	isNone(t, long)
	isNone(t, "Derive(\""+long)
	isNone(t, strings.Repeat("(", api.MaxText))
	isNone(t, "Derive(\"x\","+strings.Repeat("[", api.MaxText-20))
	isNone(t, "Derive(\"x\",["+strings.Repeat("(\"out\",\"\",\"\",\"\"),", 10000))
}

package drv_test

import (
	"bytes"
	"fmt"
	"math/rand/v2"
	"slices"
	"strings"
	"testing"
	"unsafe"

	"pantry/api"
	"pantry/digest"
	"pantry/drv"
	"pantry/path"
)

// named is some path of that name.
func named(name string) api.Path {
	p, e := path.Make("told", digest.Sum([]byte(name)), name)
	if e != api.OK {
		panic(name)
	}
	return p
}

// numbered are so many paths of that name, rising.
func numbered(n int, name string) []api.Path {
	var l []api.Path
	for i := range n {
		l = append(l, api.Path(fmt.Sprintf("%032d-%s", i, name)))
	}
	return l
}

// plain is the chapter's example.
func plain() api.Drv {
	return api.Drv{Name: "x", System: "s", Builder: "b", Outputs: []api.Output{{Name: "out"}}}
}

// fixed is a derivation whose output is told ahead.
func fixed() api.Drv {
	d := rich()
	d.Outputs = []api.Output{{Name: "out", Fixed: true, Hash: digest.Sum([]byte("told"))}}
	return d
}

// rich has more than one of all that derivations have, but what is Fixed.
func rich() api.Drv {
	return api.Drv{
		Name: "rich-1.0", System: "lean \"8\"", Builder: "/bin\\sh",
		Args: []string{"-c", "", "make\tall\n", "-c"},
		Env:  []api.Var{{Name: "CC", Value: "c\r"}, {Name: "dev", Value: "old"}, {Name: "flags"}, {Name: "out", Value: "old too"}},
		Inputs: []api.Input{
			{Drv: api.Path(strings.Repeat("1", 32) + "-a.drv"), Outs: []string{"bin", "dev"}},
			{Drv: api.Path(strings.Repeat("2", 32) + "-b.drv"), Outs: []string{"out", "z"}},
		},
		Sources: []api.Path{api.Path(strings.Repeat("0", 32) + "-s"), api.Path(strings.Repeat("3", 32) + "-t")},
		Outputs: []api.Output{{Name: "dev", Path: named("was-dev")}, {Name: "out"}},
	}
}

// digests are some of a derivation's inputs.
func digests(d api.Drv) map[api.Path]api.Hash {
	all := map[api.Path]api.Hash{}
	for _, in := range d.Inputs {
		all[in.Drv] = digest.Sum([]byte(in.Drv))
	}
	return all
}

// copied is d with lists of its own.
func copied(d api.Drv) api.Drv {
	d.Args, d.Env, d.Sources, d.Outputs = slices.Clone(d.Args), slices.Clone(d.Env), slices.Clone(d.Sources), slices.Clone(d.Outputs)
	d.Inputs = slices.Clone(d.Inputs)
	for i, in := range d.Inputs {
		d.Inputs[i].Outs = slices.Clone(in.Outs)
	}
	return d
}

// alike tells whether two are one derivation; an empty list is as good as nil.
func alike(a, b api.Drv) bool {
	inputs := slices.EqualFunc(a.Inputs, b.Inputs, func(x, y api.Input) bool { return x.Drv == y.Drv && slices.Equal(x.Outs, y.Outs) })
	return inputs && a.Name == b.Name && a.System == b.System && a.Builder == b.Builder && slices.Equal(a.Args, b.Args) &&
		slices.Equal(a.Env, b.Env) && slices.Equal(a.Sources, b.Sources) && slices.Equal(a.Outputs, b.Outputs)
}

// A fault makes a derivation like rich none; turn goes behind what else was laid in.
type fault struct {
	name string
	turn func(d *api.Drv)
	e    api.Errno
}

// faults are in the order in which Check tells them. Each changes what is there, or the lists' ends.
func faults() []fault {
	wrong := api.Path(strings.Repeat("1", 31) + "-a.drv")
	out := func(i int, turn func(o *api.Output)) func(d *api.Drv) {
		return func(d *api.Drv) {
			for len(d.Outputs) <= i {
				d.Outputs = append(d.Outputs, api.Output{Name: fmt.Sprint("z", len(d.Outputs))})
			}
			turn(&d.Outputs[i])
		}
	}
	in := func(i int, turn func(in *api.Input)) func(d *api.Drv) { return func(d *api.Drv) { turn(&d.Inputs[i]) } }
	return []fault{
		{"no name", func(d *api.Drv) { d.Name = "" }, api.ErrName},
		{"a wrong name", func(d *api.Drv) { d.Name = ".x" }, api.ErrName},
		{"a name that has no room for .drv", func(d *api.Drv) { d.Name = strings.Repeat("n", api.MaxName-3) }, api.ErrName},
		{"no outputs", func(d *api.Drv) { d.Outputs = nil }, api.ErrArg},
		{"many outputs", func(d *api.Drv) { d.Outputs = append(d.Outputs, make([]api.Output, api.MaxOuts)...) }, api.ErrArg},
		{"an output without a name", out(0, func(o *api.Output) { o.Name = "" }), api.ErrName},
		{"an output's path is none", out(0, func(o *api.Output) { o.Path = "no" }), api.ErrForm},
		{"fixed beside another", out(0, func(o *api.Output) { o.Fixed = true }), api.ErrForm},
		{"a hash of what is not fixed", out(0, func(o *api.Output) { o.Fixed, o.Hash[31] = false, 1 }), api.ErrForm},
		{"a second output with a wrong name", out(1, func(o *api.Output) { o.Name = "/" }), api.ErrName},
		{"an output that does not rise", out(1, func(o *api.Output) { o.Name = "a" }), api.ErrForm},
		{"an output twice", out(1, func(o *api.Output) { o.Name = "dev" }), api.ErrForm},
		{"a second output's path is none", out(1, func(o *api.Output) { o.Path = wrong }), api.ErrForm},
		{"a second one fixed", out(1, func(o *api.Output) { o.Fixed = true }), api.ErrForm},
		{"a second one's hash", out(1, func(o *api.Output) { o.Fixed, o.Hash[0] = false, 1 }), api.ErrForm},
		{"a third output with a wrong name", out(2, func(o *api.Output) { o.Name = " " }), api.ErrName},
		{"an input that is no path", in(0, func(in *api.Input) { in.Drv = wrong }), api.ErrForm},
		{"an input of no derivation", in(0, func(in *api.Input) { in.Drv = named("a.drv-1") }), api.ErrForm},
		{"an input that is all suffix", in(0, func(in *api.Input) { in.Drv = api.Path(strings.Repeat("1", 32) + "-.drv") }), api.ErrForm},
		{"an input without outs", in(0, func(in *api.Input) { in.Outs = nil }), api.ErrForm},
		{"an input's out has a wrong name", in(0, func(in *api.Input) { in.Outs = []string{"a b", "c"} }), api.ErrName},
		{"an input's outs do not rise", in(0, func(in *api.Input) { in.Outs = []string{"b", "a"} }), api.ErrForm},
		{"an input's out twice", in(0, func(in *api.Input) { in.Outs = []string{"a", "b", "b"} }), api.ErrForm},
		{"a later out has a wrong name", in(0, func(in *api.Input) { in.Outs = []string{"a", "b", "c", "?/"} }), api.ErrName},
		{"an input twice", in(1, func(in *api.Input) { in.Drv = api.Path(strings.Repeat("1", 32) + "-a.drv") }), api.ErrForm},
		{"an input that does not rise", in(1, func(in *api.Input) { in.Drv = api.Path(strings.Repeat("1", 32) + "-Z.drv") }), api.ErrForm},
		{"a second input without outs", in(1, func(in *api.Input) { in.Outs = []string{} }), api.ErrForm},
		{"a second input's out without a name", in(1, func(in *api.Input) { in.Outs = []string{""} }), api.ErrName},
		{"a second input's outs do not rise", in(1, func(in *api.Input) { in.Outs = []string{"a", "A"} }), api.ErrForm},
		{"a source that is none", func(d *api.Drv) { d.Sources[0] = "" }, api.ErrForm},
		{"a source that does not rise", func(d *api.Drv) { d.Sources[1] = api.Path(strings.Repeat("0", 32) + "-a") }, api.ErrForm},
		{"a source twice", func(d *api.Drv) { d.Sources[1] = d.Sources[0] }, api.ErrForm},
		{"a second source that is none", func(d *api.Drv) { d.Sources[1] = "zz" }, api.ErrForm},
		{"a variable without a name", func(d *api.Drv) { d.Env[0].Name = "" }, api.ErrForm},
		{"a variable that does not rise", func(d *api.Drv) { d.Env[1].Name = "AA" }, api.ErrForm},
		{"a variable twice", func(d *api.Drv) { d.Env[2].Name = "dev" }, api.ErrForm},
		{"a last variable without a name", func(d *api.Drv) { d.Env[3].Name = "" }, api.ErrForm},
		{"a long text", func(d *api.Drv) { d.System = strings.Repeat("s", api.MaxText) }, api.ErrLong},
	}
}

// textOf is a derivation's text, whether it is one or not, as another program would write it.
func textOf(d api.Drv) string {
	quoted := func(l ...string) string {
		marks := strings.NewReplacer(`"`, `\"`, `\`, `\\`, "\n", `\n`, "\r", `\r`, "\t", `\t`)
		var all []string
		for _, s := range l {
			all = append(all, `"`+marks.Replace(s)+`"`)
		}
		return strings.Join(all, ",")
	}
	list := func(l []string) string { return "[" + strings.Join(l, ",") + "]" }
	var outputs, inputs, sources, env []string
	for _, o := range d.Outputs {
		kind, hash := "", ""
		if o.Fixed {
			kind = "sha256"
		}
		if o.Fixed || o.Hash != (api.Hash{}) {
			hash = fmt.Sprintf("%x", o.Hash)
		}
		outputs = append(outputs, "("+quoted(o.Name, string(o.Path), kind, hash)+")")
	}
	for _, in := range d.Inputs {
		inputs = append(inputs, "("+quoted(string(in.Drv))+",["+quoted(in.Outs...)+"])")
	}
	for _, s := range d.Sources {
		sources = append(sources, quoted(string(s)))
	}
	for _, v := range d.Env {
		env = append(env, "("+quoted(v.Name, v.Value)+")")
	}
	return fmt.Sprintf("Derive(%s,%s,%s,%s,%s,[%s],%s)", quoted(d.Name), list(outputs), list(inputs), list(sources), quoted(d.System, d.Builder), quoted(d.Args...), list(env))
}

// moduloOf is the digest that Modulo should tell of a derivation that has all its digests.
func moduloOf(d api.Drv, inputs map[api.Path]api.Hash) api.Hash {
	if d.Outputs[0].Fixed {
		return digest.Sum(fmt.Appendf(nil, "fixed:out:%x:%s", d.Outputs[0].Hash, d.Name))
	}
	d = copied(d)
	for i, o := range d.Outputs {
		d.Outputs[i].Path = ""
		for n, v := range d.Env {
			if v.Name == o.Name {
				d.Env[n].Value = ""
			}
		}
	}
	for i, in := range d.Inputs {
		d.Inputs[i].Drv = api.Path(fmt.Sprintf("%x", inputs[in.Drv]))
	}
	return digest.Sum([]byte(textOf(d)))
}

// filledOf is what Fill should answer of a derivation that has all its digests.
func filledOf(d api.Drv, inputs map[api.Path]api.Hash) (api.Drv, api.Errno) {
	filled := copied(d)
	for i, o := range d.Outputs {
		p, e := path.Output(moduloOf(d, inputs), o.Name, d.Name)
		if o.Fixed {
			p, e = path.Fixed(o.Hash, d.Name)
		}
		if e != api.OK {
			return api.Drv{}, e
		}
		filled.Outputs[i].Path = p
		for n, v := range d.Env {
			if v.Name == o.Name {
				filled.Env[n].Value = string(p)
			}
		}
	}
	return filled, api.OK
}

// refsOf is what Refs should answer of a derivation.
func refsOf(d api.Drv) []api.Path {
	l := slices.Clone(d.Sources)
	for _, in := range d.Inputs {
		l = append(l, in.Drv)
	}
	slices.Sort(l)
	return slices.Compact(l)
}

// random is a derivation at random; some are none, for a Name that no room is left behind or a row of outputs.
func random(r *rand.Rand) api.Drv {
	text := func() string {
		b := make([]byte, r.IntN(1+r.IntN(20)))
		for i := range b {
			b[i] = byte(r.IntN(256))
			if r.IntN(3) == 0 {
				b[i] = "\"\\\n\r\t,[]()"[r.IntN(10)]
			}
		}
		return string(b)
	}
	name := func() string { return fmt.Sprint(string("abcDEF+-_?="[r.IntN(11)]), r.IntN(30)) }
	names := func(n int) []string {
		var l []string
		for range n {
			l = append(l, name())
		}
		slices.Sort(l)
		return slices.Compact(l)
	}
	d := api.Drv{Name: name(), System: text(), Builder: text()}
	for range r.IntN(4) {
		d.Args = append(d.Args, text())
	}
	for _, n := range names(r.IntN(5)) {
		d.Env = append(d.Env, api.Var{Name: n, Value: text()})
	}
	for _, p := range numbered(r.IntN(4), name()) {
		d.Sources = append(d.Sources, p)
	}
	for _, p := range numbered(r.IntN(4), name()+".drv") {
		d.Inputs = append(d.Inputs, api.Input{Drv: p, Outs: names(1 + r.IntN(3))})
	}
	if r.IntN(4) == 0 {
		d.Outputs = []api.Output{{Name: "out", Fixed: true, Hash: digest.Sum([]byte(text()))}}
	}
	for _, n := range names(1 + r.IntN(6)) {
		if len(d.Outputs) == 1 && d.Outputs[0].Fixed {
			break
		}
		d.Outputs = append(d.Outputs, api.Output{Name: n})
	}
	for i := range d.Outputs {
		if r.IntN(2) == 0 {
			d.Outputs[i].Path = named(name())
		}
		if r.IntN(2) == 0 && len(d.Env) > 0 {
			d.Env[0].Name = d.Outputs[0].Name
		}
	}
	slices.SortFunc(d.Env, func(a, b api.Var) int { return strings.Compare(a.Name, b.Name) })
	d.Env = slices.CompactFunc(d.Env, func(a, b api.Var) bool { return a.Name == b.Name })
	return d
}

func ok(t *testing.T, e api.Errno) {
	t.Helper()
	answers(t, e, api.OK)
}

func answers(t *testing.T, got, want api.Errno) {
	t.Helper()
	if got != want {
		t.Fatalf("error %d, not %d", got, want)
	}
}

// refuses holds all calls on a derivation that is none against its error.
func refuses(t *testing.T, d api.Drv, want api.Errno) {
	t.Helper()
	answers(t, drv.Check(d), want)
	s, e := drv.Print(d)
	h, e2 := drv.Modulo(d, digests(d))
	x, e3 := drv.Fill(d, digests(d))
	p, e4 := drv.Path(d)
	if e != want || e2 != want || e3 != want || e4 != want {
		t.Errorf("errors %d, %d, %d, %d, not %d", e, e2, e3, e4, want)
	}
	if s != "" || h != (api.Hash{}) || !alike(x, api.Drv{}) || p != "" || len(drv.Refs(d)) != 0 {
		t.Errorf("with an error %q, %v, %v, %q, %v", s, h, x, p, drv.Refs(d))
	}
}

// prints holds Print and Parse against a text.
func prints(t *testing.T, d api.Drv, want string) {
	t.Helper()
	s, e := drv.Print(d)
	ok(t, e)
	if s != want {
		t.Fatalf("text %q, not %q", s, want)
	}
	x, e := drv.Parse(s)
	ok(t, e)
	if !alike(x, d) {
		t.Fatalf("%q is %v, not %v", s, x, d)
	}
}

// isNone holds Parse against a text that is none.
func isNone(t *testing.T, s string) {
	t.Helper()
	if d, e := drv.Parse(s); e != api.ErrForm || !alike(d, api.Drv{}) {
		t.Errorf("%.300q: %v, error %d", s, d, e)
	}
}

func dice() *rand.Rand { return rand.New(rand.NewPCG(14, 1)) }

// rounds is how often a test goes round.
func rounds(n int) int {
	if testing.Short() {
		return n / 10
	}
	return n
}

// borrowed is a text over bytes that may be changed.
func borrowed[T ~string](s T) (T, []byte) {
	b := []byte(s)
	return T(unsafe.String(unsafe.SliceData(b), len(b))), b
}

// span is some memory. It is kept: what nobody has any more could be used anew.
type span struct {
	from, to uintptr
	kept     unsafe.Pointer
}

// spanOf is the memory of a list, with the room behind its end.
func spanOf[T any](l []T) span {
	p := unsafe.Pointer(unsafe.SliceData(l))
	var x T
	return span{uintptr(p), uintptr(p) + uintptr(cap(l))*unsafe.Sizeof(x), p}
}

// spansOf is the memory of texts; those of less than two bytes have none of their own.
func spansOf[T ~string](l ...T) []span {
	var all []span
	for _, s := range l {
		if len(s) > 1 {
			p := unsafe.Pointer(unsafe.StringData(string(s)))
			all = append(all, span{uintptr(p), uintptr(p) + uintptr(len(s)), p})
		}
	}
	return all
}

// spansOfDrv is the memory of all that a derivation has.
func spansOfDrv(d api.Drv) []span {
	all := []span{spanOf(d.Args), spanOf(d.Env), spanOf(d.Inputs), spanOf(d.Sources), spanOf(d.Outputs)}
	all = append(all, spansOf(d.Name, d.System, d.Builder)...)
	all = append(all, spansOf(d.Args...)...)
	all = append(all, spansOf(d.Sources...)...)
	for _, v := range d.Env {
		all = append(all, spansOf(v.Name, v.Value)...)
	}
	for _, in := range d.Inputs {
		all = append(all, spanOf(in.Outs))
		all = append(all, spansOf(string(in.Drv))...)
		all = append(all, spansOf(in.Outs...)...)
	}
	for _, o := range d.Outputs {
		all = append(all, spansOf(o.Name, string(o.Path))...)
	}
	return all
}

// meet tells whether two of some memory share any.
func meet(all []span) bool {
	all = slices.DeleteFunc(all, func(s span) bool { return s.from == s.to })
	slices.SortFunc(all, func(a, b span) int {
		if a.from < b.from {
			return -1
		}
		return 1
	})
	for i := 1; i < len(all); i++ {
		if all[i].from < all[i-1].to {
			return true
		}
	}
	return false
}

// allBytes are the bytes from 00 to ff.
func allBytes() []byte {
	var b bytes.Buffer
	for c := range 256 {
		b.WriteByte(byte(c))
	}
	return b.Bytes()
}

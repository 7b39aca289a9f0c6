package drv_test

import (
	"fmt"
	"maps"
	"strings"
	"testing"

	"pantry/api"
	"pantry/digest"
	"pantry/drv"
	"pantry/path"
)

// fills holds Modulo and Fill against what they should answer.
func fills(t *testing.T, d api.Drv, inputs map[api.Path]api.Hash) api.Drv {
	t.Helper()
	h, e := drv.Modulo(d, inputs)
	ok(t, e)
	if h != moduloOf(d, inputs) {
		t.Fatalf("%s: Modulo is %x, not %x", d.Name, h, moduloOf(d, inputs))
	}
	x, e := drv.Fill(d, inputs)
	want, wantE := filledOf(d, inputs)
	answers(t, e, wantE)
	if !alike(x, want) {
		t.Fatalf("filled %v, not %v", x, want)
	}
	return x
}

// P14.3, P14.4: a digest and a path that are written out here.
func TestPlain(t *testing.T) {
	h := digest.Sum([]byte(`Derive("x",[("out","","","")],[],[],"s","b",[],[])`))
	p, _ := path.Output(h, "out", "x")
	if x := fills(t, plain(), nil); x.Outputs[0].Path != p {
		t.Errorf("path %q, not %q", x.Outputs[0].Path, p)
	}
}

// P14.3, P14.4: outputs' paths and their variables' values do not count; all else does.
func TestMasked(t *testing.T) {
	d := rich()
	a, b := digest.Sum([]byte("a")), digest.Sum([]byte("b"))
	inputs := map[api.Path]api.Hash{d.Inputs[0].Drv: a, d.Inputs[1].Drv: b}
	h := digest.Sum([]byte(`Derive("rich-1.0",[("dev","","",""),("out","","","")],[("` + digest.Hex(a) + `",["bin","dev"]),("` + digest.Hex(b) + `",["out","z"])],` +
		`["` + strings.Repeat("0", 32) + `-s","` + strings.Repeat("3", 32) + `-t"],"lean \"8\"","/bin\\sh",["-c","","make\tall\n","-c"],[("CC","c\r"),("dev",""),("flags",""),("out","")])`))
	if got, e := drv.Modulo(d, inputs); got != h || e != api.OK {
		t.Errorf("Modulo is %x, error %d", got, e)
	}
	dev, _ := path.Output(h, "dev", "rich-1.0")
	out, _ := path.Output(h, "out", "rich-1.0")
	x := fills(t, d, inputs)
	if x.Outputs[0].Path != dev || x.Outputs[1].Path != out || x.Env[1].Value != string(dev) || x.Env[3].Value != string(out) || x.Env[0].Value != "c\r" || x.Env[2].Value != "" {
		t.Errorf("filled %v", x)
	}
}

// P14.3: the digests stand in the order of Drvs, whichever order they have.
func TestOrderOfDigests(t *testing.T) {
	d := rich()
	low, high := api.Hash{1}, api.Hash{2}
	one := fills(t, d, map[api.Path]api.Hash{d.Inputs[0].Drv: low, d.Inputs[1].Drv: high})
	other := fills(t, d, map[api.Path]api.Hash{d.Inputs[0].Drv: high, d.Inputs[1].Drv: low})
	alone := fills(t, d, map[api.Path]api.Hash{d.Inputs[0].Drv: low, d.Inputs[1].Drv: low})
	if one.Outputs[0] == other.Outputs[0] || one.Outputs[0] == alone.Outputs[0] || other.Outputs[0] == alone.Outputs[0] {
		t.Error("digests do not count")
	}
}

// P14.3: an input's digest may be zero, but must be there; more of them do not count.
func TestInputs(t *testing.T) {
	d := rich()
	for _, lacking := range [][]int{{0}, {1}, {0, 1}} {
		inputs := digests(d)
		for _, i := range lacking {
			delete(inputs, d.Inputs[i].Drv)
		}
		inputs[named("other.drv")] = api.Hash{9}
		inputs[""] = api.Hash{8}
		h, e := drv.Modulo(d, inputs)
		x, e2 := drv.Fill(d, inputs)
		if h != (api.Hash{}) || !alike(x, api.Drv{}) || e != api.ErrRef || e2 != api.ErrRef {
			t.Errorf("without %v: %x, %v, errors %d, %d", lacking, h, x, e, e2)
		}
	}
	for _, none := range []map[api.Path]api.Hash{nil, {}} {
		_, e := drv.Modulo(d, none)
		answers(t, e, api.ErrRef)
		_, e = drv.Fill(d, none)
		answers(t, e, api.ErrRef)
	}
	inputs := digests(d)
	want := fills(t, d, inputs)
	for i := range 100 {
		inputs[named(fmt.Sprint(i, ".drv"))] = api.Hash{byte(i)}
	}
	if !alike(fills(t, d, inputs), want) {
		t.Error("inputs of others count")
	}
	fills(t, d, map[api.Path]api.Hash{d.Inputs[0].Drv: {}, d.Inputs[1].Drv: {}})
}

// P14.3, P14.4: of a Fixed one the Hash and the Name count alone, and no digests are asked for.
func TestFixedOnes(t *testing.T) {
	d := fixed()
	h := digest.Sum([]byte("fixed:out:" + digest.Hex(d.Outputs[0].Hash) + ":rich-1.0"))
	p, _ := path.Fixed(d.Outputs[0].Hash, "rich-1.0")
	for _, inputs := range []map[api.Path]api.Hash{nil, digests(d)} {
		got, e := drv.Modulo(d, inputs)
		x := fills(t, d, inputs)
		if got != h || e != api.OK || x.Outputs[0].Path != p || x.Env[3].Value != string(p) || x.Env[1].Value != "old" {
			t.Errorf("%x, %v, error %d", got, x, e)
		}
	}
	bare := plain()
	bare.Name, bare.Outputs = d.Name, []api.Output{{Name: "out", Path: named("old"), Fixed: true, Hash: d.Outputs[0].Hash}}
	if x := fills(t, bare, nil); x.Outputs[0].Path != p {
		t.Errorf("path %q", x.Outputs[0].Path)
	}
	bare.Outputs[0].Hash[31]++
	if x := fills(t, bare, nil); x.Outputs[0].Path == p {
		t.Error("the Hash does not count")
	}
}

// P14.4: ErrName, where an output's name has no room behind the derivation's.
func TestLongNames(t *testing.T) {
	for n := 70; n <= api.MaxName-4; n++ {
		for size := 1; size < 12; size++ {
			d := plain()
			d.Name = strings.Repeat("n", n)
			d.Outputs = []api.Output{{Name: "a"}, {Name: strings.Repeat("o", size)}}
			h, e := drv.Modulo(d, nil)
			ok(t, e)
			x, e := drv.Fill(d, nil)
			if n+1+size > api.MaxName {
				if e != api.ErrName || !alike(x, api.Drv{}) {
					t.Errorf("%d, %d: %v, error %d", n, size, x, e)
				}
				continue
			}
			ok(t, e)
			p, _ := path.Output(h, d.Outputs[1].Name, d.Name)
			if x.Outputs[1].Path != p {
				t.Errorf("%d, %d: %v", n, size, x)
			}
		}
		d := plain()
		d.Name = strings.Repeat("n", n)
		fills(t, d, nil)
		d.Outputs[0].Fixed = true
		fills(t, d, nil)
	}
}

// P14.6: paths of a Fill do not hang on those that stood there, nor on values of variables called like outputs.
func TestOldPaths(t *testing.T) {
	for _, d := range goods() {
		once, e := drv.Fill(d, digests(d))
		ok(t, e)
		twice := fills(t, once, digests(d))
		if !alike(once, twice) {
			t.Errorf("filled %v, then %v", once, twice)
		}
		other := copied(d)
		for i := range other.Outputs {
			other.Outputs[i].Path = named(fmt.Sprint("old", i))
			for n := range other.Env {
				if other.Env[n].Name == other.Outputs[i].Name {
					other.Env[n].Value = "older"
				}
			}
		}
		if !alike(fills(t, other, digests(d)), once) {
			t.Error("what stood there counts")
		}
	}
}

// P14.4: variables are told by their whole names.
func TestVariables(t *testing.T) {
	d := plain()
	d.Outputs = []api.Output{{Name: "lib"}, {Name: "out"}}
	for _, name := range []string{"LIB", "li", "libs", "lib ", "\nlib", "ou", "out\x00"} {
		d.Env = []api.Var{{Name: name, Value: "kept"}}
		if x := fills(t, d, nil); x.Env[0].Value != "kept" {
			t.Errorf("%q is %q", name, x.Env[0].Value)
		}
		h, _ := drv.Modulo(d, nil)
		d.Env[0].Value = "else"
		if other, _ := drv.Modulo(d, nil); h == other {
			t.Errorf("%q does not count", name)
		}
	}
}

// P14.3, P14.4: a text of MaxText bytes is filled, though it is longer then, and though digests are longer than paths.
func TestFullText(t *testing.T) {
	d := rich()
	d.Outputs[0].Path = ""
	d.Builder += strings.Repeat("b", api.MaxText-len(textOf(d)))
	if len(textOf(d)) != api.MaxText {
		t.Fatalf("%d bytes", len(textOf(d)))
	}
	x := fills(t, d, digests(d))
	refuses(t, x, api.ErrLong)
}

// P14.3, P14.4: derivations at random.
func TestRandomFills(t *testing.T) {
	r := dice()
	for range rounds(5000) {
		d := random(r)
		inputs := digests(d)
		fills(t, d, inputs)
		if len(d.Inputs) > 0 && !d.Outputs[0].Fixed {
			lacking := maps.Clone(inputs)
			delete(lacking, d.Inputs[r.IntN(len(d.Inputs))].Drv)
			_, e := drv.Fill(d, lacking)
			answers(t, e, api.ErrRef)
		}
	}
}

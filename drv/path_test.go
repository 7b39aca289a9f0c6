package drv_test

import (
	"fmt"
	"slices"
	"strings"
	"testing"

	"pantry/api"
	"pantry/digest"
	"pantry/drv"
	"pantry/path"
)

// pathed holds Path and Refs against what they should answer.
func pathed(t *testing.T, d api.Drv) {
	t.Helper()
	if refs := drv.Refs(d); !slices.Equal(refs, refsOf(d)) {
		t.Fatalf("%s refers to %v, not to %v", d.Name, refs, refsOf(d))
	}
	p, e := drv.Path(d)
	ok(t, e)
	want, e := path.Text(digest.Sum([]byte(textOf(d))), refsOf(d), d.Name+".drv")
	ok(t, e)
	if p != want {
		t.Fatalf("%s has the path %q, not %q", d.Name, p, want)
	}
}

// P14.5: paths, and what derivations refer to.
func TestPath(t *testing.T) {
	for _, d := range goods() {
		pathed(t, d)
	}
	r := dice()
	for range rounds(5000) {
		pathed(t, random(r))
	}
}

// P14.5: Drvs and Sources stand among one another, rising; what is both stands once.
func TestRefs(t *testing.T) {
	d := plain()
	var want []api.Path
	for i := range 60 {
		p := api.Path(fmt.Sprintf("%032d-x.drv", i))
		if i%2 == 0 {
			d.Inputs = append(d.Inputs, api.Input{Drv: p, Outs: []string{"out"}})
		}
		if i%3 == 0 {
			d.Sources = append(d.Sources, p)
		}
		if i%2 == 0 || i%3 == 0 {
			want = append(want, p)
		}
	}
	if refs := drv.Refs(d); !slices.Equal(refs, want) {
		t.Errorf("refs %v, not %v", refs, want)
	}
	pathed(t, d)
	d.Outputs[0].Path = named("x")
	if refs := drv.Refs(d); !slices.Equal(refs, want) {
		t.Errorf("with a path, refs %v", refs)
	}
}

// P14.5: as many refs as a text's path may have, and one more.
func TestManyRefs(t *testing.T) {
	d := plain()
	d.Sources = numbered(api.MaxRefs-1, "s")
	d.Inputs = []api.Input{{Drv: named("i.drv"), Outs: []string{"out"}}}
	pathed(t, d)
	d.Sources = numbered(api.MaxRefs, "s")
	if p, e := drv.Path(d); p != "" || e != api.ErrLong {
		t.Errorf("path %q, error %d", p, e)
	}
	ok(t, drv.Check(d))
	if len(drv.Refs(d)) != api.MaxRefs+1 {
		t.Errorf("%d refs", len(drv.Refs(d)))
	}
	// One that is a source and an input counts once.
	d.Inputs[0].Drv = numbered(1, "s.drv")[0]
	d.Sources[0] = d.Inputs[0].Drv
	pathed(t, d)
}

// P14.5: the paths that stand in a derivation count for its own.
func TestPathsCount(t *testing.T) {
	d := rich()
	p, _ := drv.Path(d)
	x, e := drv.Fill(d, digests(d))
	ok(t, e)
	q, e := drv.Path(x)
	ok(t, e)
	if p == q {
		t.Error("the outputs' paths do not count")
	}
	_, name, e := path.Split(q)
	ok(t, e)
	if name != "rich-1.0.drv" || strings.Contains(textOf(x), string(q)) {
		t.Errorf("the path is %q", q)
	}
}

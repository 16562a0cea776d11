package pattern

import (
	"slices"
	"strings"
	"testing"
)

// chapterGiven are the texts of P15.5, one behind the other, as they stand there.
const chapterGiven = `IK:
  <- s
  ...
  -> skem, e, e1, es, s, ss
  <- ekem, skem, e, ee, se
KK:
  -> s
  <- s
  ...
  -> skem, e, e1, es, ss
  <- ekem, skem, e, ee, se
NK:
  <- s
  ...
  -> skem, e, e1, es
  <- ekem, e, ee
NN:
  -> e, e1
  <- ekem, e, ee
NNpsk:
  -> e, e1
  <- ekem, e, ee, psk
XX:
  -> e, e1
  <- ekem, e, ee, s, es
  -> skem, s, se
  <- skem
`

// P15.5: the names, in order, in new memory.
func TestNames(t *testing.T) {
	want := []string{"IK", "KK", "NK", "NN", "NNpsk", "XX"}
	got := Names()
	if !slices.Equal(got, want) {
		t.Fatalf("Names are %v", got)
	}
	for i := range got {
		got[i] = "changed"
	}
	if got := Names(); !slices.Equal(got, want) {
		t.Errorf("after they were changed Names are %v", got)
	}
}

// P15.5: the texts, each by its name, byte by byte.
func TestGiven(t *testing.T) {
	all := ""
	for _, name := range []string{"IK", "KK", "NK", "NN", "NNpsk", "XX"} {
		text, there := Given(name)
		if !there || !strings.HasPrefix(text, name+":\n") {
			t.Errorf("%s: %q, %v", name, text, there)
		}
		all += text
	}
	if all != chapterGiven {
		t.Errorf("the texts are %q", all)
	}
}

// P15.5: names that none of them has.
func TestGivenOfOthers(t *testing.T) {
	others := []string{
		"", " ", "X", "N", "K", "nn", "Nn", "xx", "NNPSK", "NNPsk", "NNps", "NNpskk", "NN ", " NN", "NN:", "NN\n", "NN\x00", "IX", "XK", "KN", "IN", "XN",
		"NX", "KX", "IKpsk", "XXX", "NNNN", "IK,KK", strings.Repeat("NN", 100000), "\xff",
	}
	text, _ := Given("NN")
	for _, name := range append(others, text) {
		if text, there := Given(name); text != "" || there {
			t.Errorf("%q: %q, %v", name, text, there)
		}
	}
}

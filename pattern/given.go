package pattern

// The texts of the patterns that are given.
const (
	textIK = `IK:
  <- s
  ...
  -> skem, e, e1, es, s, ss
  <- ekem, skem, e, ee, se
`
	textKK = `KK:
  -> s
  <- s
  ...
  -> skem, e, e1, es, ss
  <- ekem, skem, e, ee, se
`
	textNK = `NK:
  <- s
  ...
  -> skem, e, e1, es
  <- ekem, e, ee
`
	textNN = `NN:
  -> e, e1
  <- ekem, e, ee
`
	textNNpsk = `NNpsk:
  -> e, e1
  <- ekem, e, ee, psk
`
	textXX = `XX:
  -> e, e1
  <- ekem, e, ee, s, es
  -> skem, s, se
  <- skem
`
)

// given is a pattern's name and its text.
type given struct {
	name, text string
}

// allGiven are the patterns that are given, in the order of their names.
func allGiven() [6]given {
	return [...]given{
		{"IK", textIK}, {"KK", textKK}, {"NK", textNK}, {"NN", textNN}, {"NNpsk", textNNpsk}, {"XX", textXX},
	}
}

// Names are those of the patterns that are given.
func Names() []string {
	var out []string
	for _, g := range allGiven() {
		out = append(out, g.name)
	}
	return out
}

// Given is the text of a pattern that is given.
func Given(name string) (string, bool) {
	for _, g := range allGiven() {
		if g.name == name {
			return g.text, true
		}
	}
	return "", false
}

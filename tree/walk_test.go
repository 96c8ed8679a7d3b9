package tree

import (
	"math/rand"
	"testing"

	"spinet/api"
)

// Modules made at random, written in one of many ways: Parse must tell them
// again, each thing with the place where it was written.
func TestParseTellsWhatWasWritten(t *testing.T) {
	r := rand.New(rand.NewSource(11))
	for range 6000 {
		m := maker{r}.module()
		s, ok := written(&m, r)
		if !ok {
			t.Fatal(m)
		}
		if len(s) > api.MaxText {
			continue
		}
		got := mustParse(t, s)
		if !exactly(got, m) {
			t.Fatalf("%s\ngot  %v\nwant %v", s, got, m)
		}
		mustShareNothing(t, s, got)
		if !Check(got) || !Check(m) || !Same(got, m) || Size(m) != nodesOf(m) {
			t.Fatalf("%s: %v", s, m)
		}
	}
}

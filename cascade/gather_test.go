package cascade

import (
	"testing"

	"greatseal/api"
)

// P10.2: no numbers are known that have more levels than there may be, so that this is asked of levels that are made up.
func TestOfTooManyLevelsNoneIsGathered(t *testing.T) {
	for many := range 40 {
		asked := 0
		c, e := gather(5, func(yield func(api.Sieve) bool) {
			for number := range many {
				asked++
				if !yield(api.Sieve{Bits: 8, Hashes: 3, Salt: salt(5, number), B: []byte{255}}) {
					return
				}
			}
		})
		switch {
		case many <= 16 && (e != api.OK || len(c.Levels) != many || Check(c) != api.OK):
			t.Errorf("of %d levels %v, %d is gathered", many, c, e)
		case many > 16 && (e != api.ErrBound || c.Day != 0 || len(c.Levels) != 0 || asked != 17):
			t.Errorf("of %d levels %v, %d is gathered, and %d are asked for", many, c, e, asked)
		}
	}
}

package symfile

import "spinet/rider"

// way is one of the two ways through a file: each closure puts into it what it is
// handed, or takes out of it what it is to hand back. One walk goes both ways, so
// that what is written and what is read can't part.
type way struct {
	byte func(n *int)
	num  func(n *int)
	bits func(n *int) // a word's number, as its signed one
	word func(x *uint32)
	text func(s *string)
	flag func(b *bool)
	over func() bool // there is no more to come
}

// writing only looks at what it is handed: that is the argument's own memory.
func writing(to *rider.Writer) way {
	return way{
		byte: func(n *int) { to.Byte(*n) },
		num:  func(n *int) { to.Num(*n) },
		bits: func(n *int) { to.Num(int(int32(*n))) },
		word: func(x *uint32) { to.Word(*x) },
		text: func(s *string) { to.Text(*s) },
		flag: func(b *bool) {
			if *b {
				to.Byte(1)
				return
			}
			to.Byte(0)
		},
		over: func() bool { return false },
	}
}

func reading(from *rider.Reader) way {
	return way{
		byte: func(n *int) { *n = from.Byte() },
		num:  func(n *int) { *n = from.Num() },
		bits: func(n *int) { *n = int(uint32(from.Num())) },
		word: func(x *uint32) { *x = from.Word() },
		text: func(s *string) { *s = from.Text() },
		flag: func(b *bool) { *b = from.Byte() == 1 },
		over: func() bool { return from.Bad() },
	}
}

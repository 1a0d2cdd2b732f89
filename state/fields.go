package state

import (
	"tarry/api"
	"tarry/pack"
)

// field is one of a thing's, which is written, and read. A thing's fields stand in one row for both, so that what is written is what is read.
type field interface {
	text() string
	read(text string)
}

type (
	name   string
	number int
	truth  bool
)

func (x *name) text() string { return string(*x) }

func (x *name) read(text string) { *x = name(text) }

// text has no error to tell: all numbers of a state that may be are small enough.
func (x *number) text() string {
	text, _ := pack.Number(int(*x))
	return text
}

func (x *number) read(text string) {
	n, rest, err := pack.ReadNumber(text)
	if err != api.OK || rest != "" {
		panic(api.ErrSyntax)
	}
	*x = number(n)
}

func (x *truth) text() string {
	var n number
	if *x {
		n = 1
	}
	return n.text()
}

func (x *truth) read(text string) {
	var n number
	n.read(text)
	if n != 0 && n != 1 {
		panic(api.ErrSyntax)
	}
	*x = n == 1
}

func subFields(s *api.Sub) []field {
	return []field{
		(*name)(&s.From), (*name)(&s.To), (*number)(&s.Rank), (*number)(&s.Num), (*number)(&s.Den),
	}
}

func stockFields(r *api.Row) []field {
	return []field{
		(*name)(&r.Sku), (*number)(&r.In), (*number)(&r.Free), (*number)(&r.Held), (*number)(&r.Shipped), (*number)(&r.Lost),
	}
}

func orderFields(o *api.Order) []field {
	return []field{
		(*number)(&o.Id), (*name)(&o.Sku), (*number)(&o.Class), (*number)(&o.Seq),
		(*number)(&o.Need), (*number)(&o.Done), (*number)(&o.Price), (*number)(&o.Cutoff),
		(*truth)(&o.Split), (*number)(&o.Phase),
		(*name)(&o.Load.Sku), (*number)(&o.Load.Units), (*number)(&o.Load.Counts), (*number)(&o.Load.Key),
		(*number)(&o.Pay.Amount), (*number)(&o.Pay.Caught), (*number)(&o.Pay.Until), (*number)(&o.Pay.State),
		(*number)(&o.Ask.State), (*number)(&o.Ask.Until),
		(*truth)(&o.Ends),
	}
}

func outFields(x *api.Out) []field {
	return []field{
		(*number)(&x.Key), (*number)(&x.Kind), (*number)(&x.Order), (*number)(&x.Due),
	}
}

// countFields are those that go on as things happen.
func countFields(s *api.State) []field {
	return []field{
		(*number)(&s.Out.Last), (*number)(&s.Now), (*number)(&s.Seq),
	}
}

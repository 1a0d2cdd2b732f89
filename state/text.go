package state

import (
	"tarry/api"
	"tarry/pack"
)

// Text is a state's bytes, without its indexes: its orders make them again.
func Text(s api.State) (string, api.Errno) {
	if !Right(s) {
		return "", api.ErrArg
	}
	text, err := pack.Row(
		rowText(s.Goods.Skus),
		rowsText(s.Goods.Subs, subFields),
		rowsText(s.Stock, stockFields),
		rowsText(s.Orders, orderFields),
		rowsText(s.Out.Rows, outFields),
		fieldsText(countFields(&s)),
	)
	// The orders' row alone may be too long for a row: then all of it is too long, too.
	if err != api.OK || len(text) > api.MaxSnap {
		return "", api.ErrLong
	}
	return text, api.OK
}

// Read is the state of such bytes, with its indexes.
func Read(s string) (read api.State, err api.Errno) {
	if len(s) > api.MaxSnap {
		return api.State{}, api.ErrSyntax
	}
	defer func() {
		if recover() != nil {
			read, err = api.State{}, api.ErrSyntax
		}
	}()
	return stateOf(s), api.OK
}

// stateOf reads a state; what is odd in it is panicked, however deep it stands.
func stateOf(text string) api.State {
	parts := textsOf(text)
	if len(parts) != 6 {
		panic(api.ErrSyntax)
	}
	s := api.State{
		Goods:  api.Goods{Skus: textsOf(parts[0]), Subs: rowsOf(parts[1], subFields)},
		Stock:  rowsOf(parts[2], stockFields),
		Orders: rowsOf(parts[3], orderFields),
		Out:    api.Outbox{Rows: rowsOf(parts[4], outFields)},
	}
	readFields(parts[5], countFields(&s))
	// Of orders that may not be, there are no indexes, and the state may not be, either.
	s.Waits, _ = Waits(s.Orders)
	s.Timers, _ = Timers(s.Orders)
	if !Right(s) {
		panic(api.ErrSyntax)
	}
	return s
}

// rowsOf reads a row of rows, each of which has the fields of one thing.
func rowsOf[T any](text string, fields func(*T) []field) []T {
	texts := textsOf(text)
	l := make([]T, len(texts))
	for i := range l {
		readFields(texts[i], fields(&l[i]))
	}
	return l
}

func readFields(text string, fields []field) {
	texts := textsOf(text)
	if len(texts) != len(fields) {
		panic(api.ErrSyntax)
	}
	for i, f := range fields {
		f.read(texts[i])
	}
}

func textsOf(text string) []string {
	texts, err := pack.ReadRow(text)
	if err != api.OK {
		panic(api.ErrSyntax)
	}
	return texts
}

// rowsText is what rowsOf reads.
func rowsText[T any](l []T, fields func(*T) []field) string {
	var texts []string
	for _, x := range l {
		texts = append(texts, fieldsText(fields(&x)))
	}
	return rowText(texts)
}

func fieldsText(fields []field) string {
	var texts []string
	for _, f := range fields {
		texts = append(texts, f.text())
	}
	return rowText(texts)
}

// rowText has no error to tell: in a state that may be there are few of all, and each is short.
func rowText(texts []string) string {
	text, _ := pack.Row(texts...)
	return text
}

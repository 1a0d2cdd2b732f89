package pack

import "tarry/api"

// Row is a row's bytes.
func Row(texts ...string) (string, api.Errno) {
	row := make(chan string, api.MaxRow)
	for _, text := range texts {
		if err := keep(row, text); err != api.OK {
			return "", err
		}
	}
	close(row)
	out := appendNumber(nil, len(texts))
	for text := range row {
		out = appendNumber(out, len(text))
		out = append(out, text...)
	}
	return string(out), api.OK
}

// ReadRow are the texts of a row's bytes.
func ReadRow(s string) ([]string, api.Errno) {
	count, rest, err := readCount(s, api.MaxRow)
	if err != api.OK {
		return nil, err
	}
	row := make(chan string, api.MaxRow)
	for range count {
		var text string
		text, rest, err = readText(rest)
		if err != api.OK {
			return nil, err
		}
		if err = keep(row, text); err != api.OK {
			return nil, err
		}
	}
	if rest != "" {
		return nil, api.ErrSyntax
	}
	return all(row), api.OK
}

// keep holds the bounds of a row, of what is written as of what is read: the channel's room is how many texts there may be, so it must never be waited for.
func keep(row chan<- string, text string) api.Errno {
	if len(text) > api.MaxText {
		return api.ErrLong
	}
	select {
	case row <- text:
		return api.OK
	default:
		return api.ErrLong
	}
}

// all ends the row: none may be kept in it any more.
func all(row chan string) []string {
	close(row)
	var texts []string
	for text := range row {
		texts = append(texts, text)
	}
	return texts
}

// readCount reads how many there are of something, of which there may be most.
func readCount(s string, most int) (int, string, api.Errno) {
	n, rest, err := ReadNumber(s)
	if err != api.OK {
		return 0, "", err
	}
	if n > most {
		return 0, "", api.ErrLong
	}
	if n < 0 {
		return 0, "", api.ErrSyntax
	}
	return n, rest, api.OK
}

func readText(s string) (string, string, api.Errno) {
	n, rest, err := readCount(s, api.MaxText)
	if err != api.OK {
		return "", "", err
	}
	if n > len(rest) {
		return "", "", api.ErrShort
	}
	return rest[:n], rest[n:], api.OK
}

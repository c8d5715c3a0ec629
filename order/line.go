package order

import (
	"strconv"
	"strings"

	"tierce/api"
)

// Text answers an order's line, as it is told; ErrArg: it can't be.
func Text(o Order) (string, api.Errno) {
	numbers, texts, ok := parts(o)
	if !ok {
		return "", api.ErrArg
	}
	line := []string{o.Word()}
	for _, n := range numbers {
		line = append(line, strconv.Itoa(n))
	}
	for _, text := range texts {
		line = append(line, byteRunes(text))
	}
	return strings.Join(line, " "), api.OK
}

// Parse answers the order that can be whose line s is; ErrForm: there is none.
func Parse(s string) (Order, api.Errno) {
	// No order has more than three fields: with a fourth it is told that there are too many, however long the rest is.
	words := strings.SplitN(s, " ", 5)
	o := blank(words[0])
	numbers, texts, ok := fields(o)
	words = words[1:]
	if !ok || len(words) != len(numbers)+len(texts) {
		return nil, api.ErrForm
	}
	if !fill(numbers, words, Number) || !fill(texts, words[len(numbers):], Bytes) {
		return nil, api.ErrForm
	}
	o = with(o, numbers, texts)
	if !canBe(o) {
		return nil, api.ErrForm
	}
	return o, api.OK
}

// fill puts what the first words are into a list, as many as it holds; false: one of them is nothing.
func fill[T any](list []T, words []string, read func(string) (T, bool)) bool {
	for i := range list {
		v, ok := read(words[i])
		if !ok {
			return false
		}
		list[i] = v
	}
	return true
}

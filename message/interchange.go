package message

import (
	"bytes"
	"slices"

	"customs/api"
	"customs/segment"
)

const maxMessages = 1000

// The tags of the first and the last segment of an interchange.
const (
	tagOpen  = "UNB"
	tagClose = "UNZ"
)

// modulus is that of the sums of a checksum.
const modulus = 65521

// Checksum returns the Adler-32 checksum of b (P7.3).
func Checksum(b []byte) int {
	x, y := 1, 0
	for _, c := range b {
		x = (x + int(c)) % modulus
		y = (y + x) % modulus
	}
	return y*65536 + x
}

// Pack returns the encoding of an interchange (P7.4).
func Pack(x api.Interchange) ([]byte, api.Errno) {
	if !areSites(x.Sender, x.Receiver) || !areNumbers(x.Number) {
		return nil, api.ErrRange
	}
	if len(x.Messages) > maxMessages {
		return nil, api.ErrLimit
	}
	var body []byte
	for _, m := range x.Messages {
		b, e := Encode(m)
		if e != api.OK {
			return nil, e
		}
		body = append(body, b...)
	}
	// No error is possible: the tags are valid, and the elements are numbers.
	head, _ := segment.Encode([]api.Segment{opening(x)})
	tail, _ := segment.Encode([]api.Segment{simple(tagClose, texts(len(x.Messages), Checksum(body))...)})
	return slices.Concat(head, body, tail), api.OK
}

// Unpack returns the interchange for which Pack returns b (P7.5).
func Unpack(b []byte) (api.Interchange, api.Errno) {
	l, _, e := segment.Decode(b)
	if e != api.OK {
		return api.Interchange{}, e
	}
	x, found := findInterchange(l)
	if !found {
		return api.Interchange{}, api.ErrSyntax
	}
	right, e := Pack(x)
	if e != api.OK {
		return api.Interchange{}, api.ErrSyntax
	}
	// What findInterchange did not look at is all that can differ: the counts and the checksum.
	if !bytes.Equal(right, b) {
		return api.Interchange{}, api.ErrChecksum
	}
	return x, api.OK
}

// opening returns the first segment of an interchange.
func opening(x api.Interchange) api.Segment {
	return simple(tagOpen, texts(x.Sender, x.Receiver, x.Number)...)
}

// findInterchange returns the interchange whose segments are l once the elements of UNZ and the first elements of all END are replaced by the right numbers, and whether there is one. It does not look at the limits of Pack.
func findInterchange(l []api.Segment) (api.Interchange, bool) {
	if len(l) < 2 {
		return api.Interchange{}, false
	}
	head, body, tail := l[0], l[1:len(l)-1], l[len(l)-1]
	x := api.Interchange{Sender: number(head, 0), Receiver: number(head, 1), Number: number(head, 2)}
	if !isSameFrom(0, head, opening(x)) || tail.Tag != tagClose || len(tail.Elements) != 2 {
		return api.Interchange{}, false
	}
	messages, found := findMessages(body)
	if !found {
		return api.Interchange{}, false
	}
	x.Messages = messages
	return x, true
}

// findMessages returns the messages whose segments, one after the other, are l once the first elements of all END are replaced by the right numbers, and whether there are such messages.
func findMessages(l []api.Segment) ([]api.Message, bool) {
	var messages []api.Message
	for len(l) > 0 {
		// If no END is left, n is 0, and there is no message without segments.
		n := 1 + slices.IndexFunc(l, isEnd)
		m, found := find(l[:n])
		if !found {
			return nil, false
		}
		messages = append(messages, m)
		l = l[n:]
	}
	return messages, true
}

// isEnd tells whether a segment is the last one of a message.
func isEnd(s api.Segment) bool { return s.Tag == tagEnd }

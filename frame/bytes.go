package frame

import (
	"annona/api"
	"annona/codec"
)

// Encode is a frame's bytes; ErrArg, if it may not be.
func Encode(f api.Frame) ([]byte, api.Errno) {
	if !Right(f) {
		return nil, api.ErrArg
	}
	var w codec.Writer
	writeFrame(&w, f)
	return w.Done()
}

// Decode is the frame that may be whose bytes they are; ErrForm, if they are none's.
func Decode(b []byte) (api.Frame, api.Errno) {
	r := codec.Read(b)
	f := readFrame(r)
	if r.Done() != api.OK || !Right(f) {
		return api.Frame{}, api.ErrForm
	}
	return f, api.OK
}

// writeFrame writes a frame's parts, by its kind, in the order in which readFrame takes them.
func writeFrame(w *codec.Writer, f api.Frame) {
	w.Num(int(f.Kind), f.From, f.To)
	has := parts()[f.Kind]
	if has&hasToken != 0 {
		writeToken(w, f.Token)
	}
	if has&hasGen != 0 {
		w.Num(f.Gen)
	}
	if has&hasHop != 0 {
		w.Num(f.Hop)
	}
	if has&hasBits != 0 {
		w.Bits(f.Bits)
	}
}

// writeToken writes a token; a stamp and 1, since -1 is no number.
func writeToken(w *codec.Writer, t api.Token) {
	w.Num(t.Gen, t.Hop, len(t.Stamps))
	for _, x := range t.Stamps {
		w.Num(x + 1)
	}
	w.Num(t.Table.Start, len(t.Table.Rows))
	for _, r := range t.Table.Rows {
		writeRow(w, r)
	}
}

// writeRow writes a row, and its leases.
func writeRow(w *codec.Writer, r api.Row) {
	w.Num(r.Key, r.Avail, r.Mark, len(r.Out))
	for _, x := range r.Out {
		w.Num(x.Node, x.Amount)
	}
}

// readFrame takes a frame's parts, by its kind; of a kind that there is not, none.
func readFrame(r *codec.Reader) api.Frame {
	var f api.Frame
	f.Kind = api.Kind(r.Num())
	f.From = r.Num()
	f.To = r.Num()
	has := parts()[f.Kind]
	if has&hasToken != 0 {
		f.Token = readToken(r)
	}
	if has&hasGen != 0 {
		f.Gen = r.Num()
	}
	if has&hasHop != 0 {
		f.Hop = r.Num()
	}
	if has&hasBits != 0 {
		f.Bits = r.Bits()
	}
	return f
}

// readToken takes a token. How many there are of something is held against the most at once, so that no list grows beyond it.
func readToken(r *codec.Reader) api.Token {
	var t api.Token
	t.Gen = r.Num()
	t.Hop = r.Num()
	for range r.Upto(api.MaxNodes) {
		t.Stamps = append(t.Stamps, r.Num()-1)
	}
	t.Table.Start = r.Num()
	for range r.Upto(api.MaxKeys) {
		t.Table.Rows = append(t.Table.Rows, readRow(r))
	}
	return t
}

// readRow takes a row, and its leases.
func readRow(r *codec.Reader) api.Row {
	var row api.Row
	row.Key = r.Num()
	row.Avail = r.Num()
	row.Mark = r.Num()
	for range r.Upto(api.MaxNodes) {
		node := r.Num()
		row.Out = append(row.Out, api.Lease{Node: node, Amount: r.Num()})
	}
	return row
}

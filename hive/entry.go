package hive

import (
	"apiary/api"
	"apiary/sap"
	"apiary/stamp"
)

// The kinds of entries: the first text of an entry's row.
const (
	blobKind   = "b"
	recordKind = "r"
)

// How many texts the rows of each kind have.
const (
	blobTexts   = 2
	recordTexts = 4
)

// digestSize is how many bytes a digest has.
const digestSize = len(api.Digest{})

// mostCode is the greatest code that a record can have.
const mostCode = 99

// name is what an entry is asked for by. The kind is a part of it, since a blob's digest may be a record's key, too.
type name struct {
	kind   string
	digest api.Digest
}

// entry is a name, and which text it has: its check tells two records of one key apart.
type entry struct {
	name
	check api.Digest
}

// content is an entry, and what its text says: a blob, or a record.
type content struct {
	entry
	blob   string
	record api.Record
}

// canBe: whether there can be such a record.
func canBe(r api.Record) bool {
	if r.Code < 0 || r.Code > mostCode {
		return false
	}
	return r.Code == api.OK || r.Out == api.Digest{}
}

// blobEntry, recordEntry: an entry, and its text.
func blobEntry(d api.Digest, blob string) (entry, string) {
	return seal(d, blobKind, blob)
}

func recordEntry(r api.Record) (entry, string) {
	return seal(r.Key, recordKind, string(r.Key[:]), sap.Num(int(r.Code)), string(r.Out[:]))
}

// seal: the entry of a digest and of its row's texts, and its text.
func seal(d api.Digest, kind string, parts ...string) (entry, string) {
	row := sap.Row(append([]string{kind}, parts...)...)
	check := stamp.Of(row)
	return entry{name: name{kind: kind, digest: d}, check: check}, string(check[:]) + row
}

// decode: what an entry's text says; false: it is none.
func decode(text string) (content, bool) {
	check, row, ok := unseal(text)
	if !ok {
		return content{}, false
	}
	if blob, ok := readBlob(row); ok {
		n := name{kind: blobKind, digest: stamp.Of(blob)}
		return content{entry: entry{name: n, check: check}, blob: blob}, true
	}
	if r, ok := readRecord(row); ok {
		n := name{kind: recordKind, digest: r.Key}
		return content{entry: entry{name: n, check: check}, record: r}, true
	}
	return content{}, false
}

// unseal: a text's check, and the texts of the row behind it; false, if they don't fit.
func unseal(text string) (api.Digest, []string, bool) {
	if len(text) < digestSize {
		return api.Digest{}, nil, false
	}
	check := digestOf(text[:digestSize])
	if stamp.Of(text[digestSize:]) != check {
		return api.Digest{}, nil, false
	}
	row, rest, ok := sap.ReadRow(text[digestSize:], recordTexts)
	if !ok || rest != "" {
		return api.Digest{}, nil, false
	}
	return check, row, true
}

// readBlob: the blob of a row; false: it has none. readRecord: the record that can be of a row.
func readBlob(row []string) (string, bool) {
	// A slot has room for more than a blob: a check that fits doesn't tell that it is one.
	if len(row) != blobTexts || row[0] != blobKind || len(row[1]) > api.MaxBlob {
		return "", false
	}
	return row[1], true
}

func readRecord(row []string) (api.Record, bool) {
	if len(row) != recordTexts || row[0] != recordKind || len(row[1]) != digestSize || len(row[3]) != digestSize {
		return api.Record{}, false
	}
	code, rest, ok := sap.ReadNum(row[2])
	if !ok || rest != "" {
		return api.Record{}, false
	}
	r := api.Record{Key: digestOf(row[1]), Code: api.Errno(code), Out: digestOf(row[3])}
	if !canBe(r) {
		return api.Record{}, false
	}
	return r, true
}

// digestOf: the digest whose bytes a text is. It must have as many.
func digestOf(s string) api.Digest { return api.Digest([]byte(s)) }

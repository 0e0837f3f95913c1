package disk

import (
	"bytes"
	"maps"
	"slices"
)

// The kinds of a change.
const (
	write = iota
	rename
	removal
)

// change is what an operation changes.
type change struct {
	kind int
	name string
	to   string // of a rename
	text []byte // of a write; never changed, for files share it
}

// writing is the change that a write is.
func writing(name string, b []byte) change {
	return change{kind: write, name: name, text: bytes.Clone(b)}
}

// files is files by their names, and how many bytes they have in all.
type files struct {
	texts map[string][]byte
	size  int
}

// do does a change.
func (f *files) do(c change) {
	switch c.kind {
	case write:
		f.put(c.name, c.text)
	case rename:
		if f.has(c.name) {
			f.put(c.to, f.take(c.name))
		}
	case removal:
		f.take(c.name)
	}
}

func (f *files) put(name string, text []byte) {
	if f.texts == nil {
		f.texts = map[string][]byte{}
	}
	f.size += len(text) - f.sizeOf(name)
	f.texts[name] = text
}

// take takes a file out.
func (f *files) take(name string) []byte {
	text := f.texts[name]
	f.size -= len(text)
	delete(f.texts, name)
	return text
}

func (f *files) has(name string) bool {
	_, is := f.texts[name]
	return is
}

func (f *files) many() int { return len(f.texts) }

func (f *files) sizeOf(name string) int { return len(f.texts[name]) }

// text is a file's bytes, apart.
func (f *files) text(name string) []byte { return bytes.Clone(f.texts[name]) }

// names is all names, rising.
func (f *files) names() []string { return slices.Sorted(maps.Keys(f.texts)) }

// apart is the same files, that may be changed by themselves.
func (f *files) apart() files { return files{texts: maps.Clone(f.texts), size: f.size} }

package cell

import (
	"slices"

	"holdfast/api"
	"holdfast/varint"
)

// dataMark stands where a row tells how many cells it has, for no row has none.
const dataMark = 0

// PutRun is bytes, and a run behind them.
func PutRun(b []byte, run []Cell) ([]byte, error) {
	if err := checkRun(run); err != nil {
		return nil, err
	}
	own := varint.Put(nil, uint64(len(run)))
	var last []byte
	for len(run) > 0 {
		first, many := run[0], 1
		if first.Kind == Data {
			own = append(own, dataItem(last, first.Data)...)
			last = first.Data
		} else {
			many = alikeCells(run)
			own = append(own, varint.Put(nil, uint64(many), uint64(first.Kind))...)
		}
		run = run[many:]
	}
	// New memory, for behind b may be spare room that isn't ours.
	return slices.Concat(b, own), nil
}

func checkRun(run []Cell) error {
	if len(run) > api.MaxPart {
		return api.ErrLong
	}
	for _, c := range run {
		if err := Check(c); err != nil {
			return err
		}
	}
	return nil
}

// dataItem is the item of a data cell, with the data of the last one ahead of it.
func dataItem(last, data []byte) []byte {
	alike := alikeBytes(last, data)
	head := varint.Put(nil, dataMark, uint64(len(data)), uint64(alike))
	return append(head, data[alike:]...)
}

// alikeBytes is how many bytes two texts both begin with.
func alikeBytes(a, b []byte) int {
	for i := range min(len(a), len(b)) {
		if a[i] != b[i] {
			return i
		}
	}
	return min(len(a), len(b))
}

// alikeCells is how many cells of the first one's kind a run begins with.
func alikeCells(run []Cell) int {
	for i, c := range run {
		if c.Kind != run[0].Kind {
			return i
		}
	}
	return len(run)
}

// TakeRun takes a run.
func TakeRun(r *varint.Reader) []Cell {
	t := taker{Reader: r}
	many := t.upTo(api.MaxPart, api.ErrLong)
	for t.Err() == nil && len(t.run) < many {
		t.takeItem(many - len(t.run))
	}
	if t.Err() != nil {
		return nil
	}
	return t.run
}

// taker takes a run, item by item.
type taker struct {
	*varint.Reader
	run  []Cell
	last []byte // the data of the last data cell of the run
}

// upTo takes a number; err is the error of one above most.
func (t *taker) upTo(most int, err error) int {
	n := t.Number()
	if n > uint64(most) {
		t.Fail(err)
		return 0
	}
	return int(n)
}

func (t *taker) takeItem(left int) {
	many := t.upTo(left, api.ErrForm)
	if many == dataMark {
		t.takeData()
	} else {
		t.takeRow(many)
	}
}

func (t *taker) takeRow(many int) {
	kind := t.upTo(Trimmed, api.ErrRange)
	if kind == Data || t.endsWith(kind) {
		t.Fail(api.ErrForm)
	}
	if t.Err() != nil {
		return
	}
	for range many {
		t.run = append(t.run, Cell{Kind: kind})
	}
}

// endsWith tells whether the run's last cell so far is of that kind: two rows of one kind, one behind the other, would be a second way to tell one row.
func (t *taker) endsWith(kind int) bool {
	end := len(t.run)
	return end > 0 && t.run[end-1].Kind == kind
}

func (t *taker) takeData() {
	size := t.upTo(api.MaxData, api.ErrLong)
	alike := t.upTo(min(size, len(t.last)), api.ErrForm)
	data := slices.Concat(t.last[:alike], t.Fixed(size-alike))
	if alikeBytes(t.last, data) > alike {
		t.Fail(api.ErrForm)
	}
	if t.Err() != nil {
		return
	}
	t.run = append(t.run, Cell{Kind: Data, Data: data})
	t.last = data
}

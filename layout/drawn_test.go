package layout

import (
	"math/rand"
	"slices"
	"strings"
	"testing"

	"domesday/width"
)

// The answers worked out otherwise: the names are set into a table of rows and
// columns, and the table is read.

// table is names in rows and columns; where no name stands there is none.
type table [][]*string

// tableAnew sets the names into so many columns.
func tableAnew(l []string, columns int, across bool) table {
	rows := 0
	for rows*columns < len(l) {
		rows++
	}
	told := make(table, rows)
	for row := range told {
		told[row] = make([]*string, columns)
	}
	row, column := 0, 0
	for i := range l {
		told[row][column] = &l[i]
		if across {
			if column++; column == columns {
				row, column = row+1, 0
			}
		} else {
			if row++; row == rows {
				row, column = 0, column+1
			}
		}
	}
	return told
}

// columnsAnew tells how wide the table's columns are, with what stands behind
// all but the last one.
func (t table) columnsAnew() []int {
	widths := make([]int, len(t[0]))
	for column := range widths {
		for row := range t {
			if name := t[row][column]; name != nil {
				widths[column] = max(widths[column], width.Of(*name))
			}
		}
		if column < len(widths)-1 {
			widths[column] += 2
		}
	}
	return widths
}

// chosenAnew is the table of the most columns that fit.
func chosenAnew(l []string, most int, across bool) table {
	for columns := len(l); ; columns-- {
		told := tableAnew(l, columns, across)
		sum := 0
		for _, wide := range told.columnsAnew() {
			sum += wide
		}
		if most <= 0 || sum <= most || columns == 1 {
			return told
		}
	}
}

func sizeAnew(l []string, most int, across bool) complex128 {
	if len(l) == 0 {
		return 0
	}
	told := chosenAnew(l, most, across)
	return complex(float64(len(told[0])), float64(len(told)))
}

func rowsAnew(l []string, most int, across bool) []string {
	if len(l) == 0 {
		return nil
	}
	chosen := chosenAnew(l, most, across)
	widths := chosen.columnsAnew()
	var told []string
	for _, names := range chosen {
		last := len(names) - 1
		for names[last] == nil {
			last--
		}
		row := ""
		for column, name := range names[:last+1] {
			row += *name
			if column < last {
				row += strings.Repeat(" ", widths[column]-width.Of(*name))
			}
		}
		told = append(told, row)
	}
	return told
}

// commasAnew puts all names into one row, and cuts it.
func commasAnew(l []string, most int) []string {
	if len(l) == 0 {
		return nil
	}
	if most <= 0 {
		return []string{strings.Join(l, ", ")}
	}
	for n := len(l); ; n-- {
		row := strings.Join(l[:n], ", ")
		if n < len(l) {
			row += ","
		}
		if n == 1 || width.Of(row) <= most {
			return append([]string{row}, commasAnew(l[n:], most)...)
		}
	}
}

// asAnew holds all calls against the answers worked out otherwise.
func asAnew(t *testing.T, l []string, most int) {
	t.Helper()
	for _, way := range twoWays {
		got := way.lay(l, most)
		isRows(t, way.name, l, most, got, rowsAnew(l, most, way.across))
		isSize(t, l, most, way.across, sizeAnew(l, most, way.across))
		asWide(t, way.name, l, most, got)
	}
	got := Commas(l, most)
	isRows(t, "Commas", l, most, got, commasAnew(l, most))
	asWide(t, "Commas", l, most, got)
}

// asWide asks whether no row is wider than the width but where a name is alone (P11.3).
func asWide(t *testing.T, call string, l []string, most int, rows []string) {
	t.Helper()
	for _, row := range rows {
		alone := slices.ContainsFunc(l, func(name string) bool {
			return row == name || call == "Commas" && row == name+","
		})
		if most > 0 && width.Of(row) > most && !alone {
			t.Errorf("%s(%q, %d): the row %q is %d wide", call, l, most, row, width.Of(row))
		}
	}
}

// P11.1, P11.2, P11.3: all lists of at most five names of widths from 0 to 2, in all widths in which they differ.
func TestAllShortLists(t *testing.T) {
	lists := [][]string{{}}
	for from := 0; from < len(lists); from++ {
		l := lists[from]
		for most := -1; most <= 4*len(l)+1; most++ {
			asAnew(t, l, most)
		}
		if len(l) < 5 {
			for _, name := range []string{"", "a", "\u3042"} {
				lists = append(lists, append(slices.Clone(l), name))
			}
		}
	}
	if len(lists) != 1+3+9+27+81+243 {
		t.Errorf("%d lists", len(lists))
	}
}

// P11.1, P11.2, P11.3: names of one width, in all numbers and widths, so that
// the columns divide them and don't, and there are columns without names.
func TestAllNumbersOfNames(t *testing.T) {
	for n := range 27 {
		l := letters(n)
		for most := -1; most < 3*n+2; most++ {
			asAnew(t, l, most)
		}
		for i := range l {
			l[i] = ""
		}
		for most := -1; most < 2*n+2; most++ {
			asAnew(t, l, most)
		}
	}
}

// drawnName is made of few different pieces of all widths.
func drawnName(r *rand.Rand) string {
	pieces := []string{"a", "b", " ", ",", ", ", "xyz", "\u3042", "\U0001f600", "\u0301", "\u200b", "\n", "\xff", "\xe3\x81"}
	name := ""
	for range r.Intn(5) {
		name += pieces[r.Intn(len(pieces))]
	}
	if r.Intn(12) == 0 {
		name += strings.Repeat("w", r.Intn(40))
	}
	return name
}

// P11.1, P11.2, P11.3
func TestDrawnNames(t *testing.T) {
	r := rand.New(rand.NewSource(11))
	for range 400 {
		l := make([]string, r.Intn(40))
		all := 0
		for i := range l {
			l[i] = drawnName(r)
			if r.Intn(5) == 0 {
				l[i] = l[r.Intn(i+1)]
			}
			all += width.Of(l[i]) + 2
		}
		before := slices.Clone(l)
		for _, most := range []int{r.Intn(10), r.Intn(80), r.Intn(all + 3), all - 3, all - 2, all - 1} {
			asAnew(t, l, most)
		}
		// The most columns of each size, and one less than they take.
		for _, way := range twoWays {
			for columns := 2; columns < len(l); columns += 1 + r.Intn(8) {
				sum := 0
				for _, wide := range tableAnew(l, columns, way.across).columnsAnew() {
					sum += wide
				}
				asAnew(t, l, sum)
				asAnew(t, l, sum-1)
			}
		}
		if !slices.Equal(l, before) {
			t.Fatalf("the names have changed: %q", l)
		}
		if t.Failed() {
			return
		}
	}
}

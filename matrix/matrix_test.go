package matrix

import (
	"slices"
	"testing"

	"abacus/api"
)

// counted is a matrix whose number in row i and column j is 10i + j.
func counted(rows, cols int) Matrix {
	m := New(rows, cols)
	for row := range rows {
		for col := range cols {
			m.Set(Place{row, col}, uint64(10*row+col))
		}
	}
	return m
}

func TestEntries(t *testing.T) {
	for _, c := range []struct {
		rows, cols, kind int
		want             []uint64
	}{
		{2, 3, api.ArrayGeneral, []uint64{0, 10, 1, 11, 2, 12}},
		{3, 3, api.ArraySymmetric, []uint64{0, 10, 20, 11, 21, 22}},
		{2, 3, api.CoordinateGeneral, []uint64{10, 1, 11, 2, 12}},
		{3, 3, api.CoordinateSymmetric, []uint64{10, 20, 11, 21, 22}},
		{2, 3, api.RowBox, []uint64{0, 1, 2, 10, 11, 12}},
		{2, 3, api.ColumnBox, []uint64{0, 10, 1, 11, 2, 12}},
		{0, 3, api.ArrayGeneral, nil},
		{3, 0, api.RowBox, nil},
		{0, 0, api.CoordinateSymmetric, nil},
	} {
		m := counted(c.rows, c.cols)
		// Stopped behind every entry, and not at all.
		for most := 1; most <= len(c.want)+1; most++ {
			var got []uint64
			for p, number := range m.Entries(c.kind) {
				if uint64(10*p.Row+p.Col) != number {
					t.Errorf("kind %d: %d at %v", c.kind, number, p)
				}
				got = append(got, number)
				if len(got) == most {
					break
				}
			}
			if want := c.want[:min(most, len(c.want))]; !slices.Equal(got, want) {
				t.Errorf("kind %d, %d by %d: %v, want %v", c.kind, c.rows, c.cols, got, want)
			}
		}
	}
}

func TestPlaces(t *testing.T) {
	for _, c := range []struct {
		rows, cols, kind int
		want             []Place
	}{
		{2, 3, api.ArrayGeneral, []Place{{0, 0}, {1, 0}, {0, 1}, {1, 1}, {0, 2}, {1, 2}}},
		{2, 3, api.CoordinateGeneral, []Place{{0, 0}, {1, 0}, {0, 1}, {1, 1}, {0, 2}, {1, 2}}},
		{3, 3, api.ArraySymmetric, []Place{{0, 0}, {1, 0}, {2, 0}, {1, 1}, {2, 1}, {2, 2}}},
		{3, 3, api.CoordinateSymmetric, []Place{{0, 0}, {1, 0}, {2, 0}, {1, 1}, {2, 1}, {2, 2}}},
		{2, 3, api.RowBox, []Place{{0, 0}, {0, 1}, {0, 2}, {1, 0}, {1, 1}, {1, 2}}},
		{2, 3, api.ColumnBox, []Place{{0, 0}, {1, 0}, {0, 1}, {1, 1}, {0, 2}, {1, 2}}},
		{0, 3, api.RowBox, nil},
		{3, 0, api.ColumnBox, nil},
		{0, 0, api.ArraySymmetric, nil},
	} {
		m := New(c.rows, c.cols)
		// Stopped behind every place, and not at all.
		for most := 1; most <= len(c.want)+1; most++ {
			var got []Place
			for p := range m.Places(c.kind) {
				got = append(got, p)
				if len(got) == most {
					break
				}
			}
			if want := c.want[:min(most, len(c.want))]; !slices.Equal(got, want) {
				t.Errorf("kind %d, %d by %d: %v, want %v", c.kind, c.rows, c.cols, got, want)
			}
		}
	}
}

func TestSymmetric(t *testing.T) {
	for n := range 6 {
		for row := range n {
			for col := range n {
				m := New(n, n)
				p := Place{row, col}
				m.Set(p, 1<<63)
				if m.Symmetric() != (row == col) {
					t.Errorf("one -0 at %v among %d by %d: %v", p, n, n, m.Symmetric())
				}
				m.Set(p.Mirrored(), 1<<63)
				if !m.Symmetric() {
					t.Errorf("-0 at %v and mirrored: not symmetric", p)
				}
			}
		}
		if !New(n, n).Symmetric() {
			t.Errorf("%d by %d noughts: not symmetric", n, n)
		}
	}
}

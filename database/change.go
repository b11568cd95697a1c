package database

import (
	"slices"

	"clause/api"
	"clause/syntax"
)

// insert answers how many rows joined.
func (t *table) insert(s syntax.Insert) int {
	check(nil, t.demandsOfRows(s.Rows))
	var rows [][]api.Value
	for _, exprs := range s.Rows {
		row := values(nil, exprs, nil)
		t.checkNulls(row)
		rows = append(rows, row)
	}
	must(t.rows.Len()+len(rows) <= api.MaxRows, api.ErrFull)
	for _, row := range rows {
		t.rows.Put(t.next, row)
		t.next++
	}
	return len(rows)
}

// demandsOfRows answers what the rows of an INSERT demand, which must be as wide as the table.
func (t *table) demandsOfRows(rows [][]syntax.Expr) []demand {
	var list []demand
	for _, row := range rows {
		must(len(row) == len(t.columns), api.ErrColumn)
		for i, e := range row {
			list = append(list, demand{e, t.typeAt(i)})
		}
	}
	return list
}

// delete answers how many rows are gone.
func (t *table) delete(s syntax.Delete) int {
	check(t.columns, demandsOfWhere(s.Where))
	var numbers []int
	for number := range t.chosen(s.Where) {
		numbers = append(numbers, number)
	}
	for _, number := range numbers {
		t.rows.Delete(number)
	}
	return len(numbers)
}

// numbered is a row and its number.
type numbered struct {
	number int
	row    []api.Value
}

// update answers how many rows have new values.
func (t *table) update(s syntax.Update) int {
	places := t.placesOf(s.Sets)
	check(t.columns, append(t.demandsOfSets(s.Sets, places), demandsOfWhere(s.Where)...))
	var changed []numbered
	for number, row := range t.chosen(s.Where) {
		changed = append(changed, numbered{number, t.renewed(row, s.Sets, places)})
	}
	for _, c := range changed {
		t.rows.Put(c.number, c.row)
	}
	return len(changed)
}

// placesOf answers which columns are set: they must be there, and none twice.
func (t *table) placesOf(sets []syntax.Set) []int {
	var places []int
	for _, set := range sets {
		place := t.columns.Place(set.Column)
		must(place >= 0 && !slices.Contains(places, place), api.ErrColumn)
		places = append(places, place)
	}
	return places
}

func (t *table) demandsOfSets(sets []syntax.Set, places []int) []demand {
	var list []demand
	for i, set := range sets {
		list = append(list, demand{set.Value, t.typeAt(places[i])})
	}
	return list
}

// renewed answers what an UPDATE makes of a row.
func (t *table) renewed(old []api.Value, sets []syntax.Set, places []int) []api.Value {
	row := slices.Clone(old)
	for i, set := range sets {
		row[places[i]] = t.columns.Value(set.Value, old)
	}
	t.checkNulls(row)
	return row
}

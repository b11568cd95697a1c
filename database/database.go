// Package database keeps tables, and runs statements on them.
package database

import (
	"clause/api"
	"clause/btree"
	"clause/fault"
	"clause/syntax"
)

// Database is tables by their names. A new one has none.
type Database struct {
	tables btree.Tree[string, *table]
}

// Run runs a statement, or panics with a fault.Fault: nothing is changed then, since all that can go wrong with a statement is found out ahead of its first change.
func (d *Database) Run(s syntax.Statement) api.Answer {
	switch s := s.(type) {
	case syntax.Create:
		d.create(s)
	case syntax.Drop:
		d.drop(s)
	case syntax.Insert:
		return api.Answer{Changed: d.table(s.Table).insert(s)}
	case syntax.Delete:
		return api.Answer{Changed: d.table(s.Table).delete(s)}
	case syntax.Update:
		return api.Answer{Changed: d.table(s.Table).update(s)}
	case syntax.Select:
		return d.table(s.Table).selection(s)
	}
	return api.Answer{}
}

// table answers the table of a name, which must be there.
func (d *Database) table(name string) *table {
	t, is := d.tables.Get(name)
	must(is, api.ErrTable)
	return t
}

func (d *Database) create(s syntax.Create) {
	_, is := d.tables.Get(s.Table)
	must(!is, api.ErrTable)
	must(areApart(s.Columns), api.ErrColumn)
	must(d.tables.Len() < api.MaxTables, api.ErrFull)
	d.tables.Put(s.Table, &table{columns: s.Columns})
}

func (d *Database) drop(s syntax.Drop) {
	d.table(s.Table)
	d.tables.Delete(s.Table)
}

// areApart tells whether no two columns have one name.
func areApart(columns []syntax.Column) bool {
	for i, column := range columns {
		for _, earlier := range columns[:i] {
			if column.Name == earlier.Name {
				return false
			}
		}
	}
	return true
}

// must gives up unless it holds.
func must(holds bool, errno api.Errno) {
	if !holds {
		panic(fault.Fault{Err: errno})
	}
}

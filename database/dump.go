package database

import (
	"strings"

	"clause/api"
	"clause/meaning"
	"clause/printer"
	"clause/syntax"
)

// Dump answers the statements that make the tables again. None of them is too long for the printer: the bounds of names, columns and texts see to that.
func (d *Database) Dump() string {
	var text strings.Builder
	for name, t := range d.tables.All() {
		write(&text, syntax.Create{Table: name, Columns: t.columns})
		for _, row := range t.rows.All() {
			write(&text, syntax.Insert{Table: name, Rows: [][]syntax.Expr{literals(row)}})
		}
	}
	return text.String()
}

func write(text *strings.Builder, s syntax.Statement) {
	text.WriteString(printer.Text(s))
	text.WriteString(";\n")
}

func literals(row []api.Value) []syntax.Expr {
	var exprs []syntax.Expr
	for _, v := range row {
		exprs = append(exprs, meaning.Literal(v))
	}
	return exprs
}

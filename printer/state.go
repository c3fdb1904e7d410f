package printer

import "vestry/api"

// statement writes a statement.
func (w *writer) statement(s api.Statement) {
	switch s.Kind {
	case api.StCreate:
		w.create(s)
	case api.StDrop:
		w.fixed("DROP", "TABLE")
		w.name(s.Table)
	case api.StInsert:
		w.fixed("INSERT", "INTO")
		w.name(s.Table)
		w.fixed("VALUES")
		list(w, ",", s.Rows, w.values)
	case api.StUpdate:
		w.fixed("UPDATE")
		w.name(s.Table)
		w.fixed("SET")
		list(w, ",", s.Sets, w.set)
		w.part(s.Where, "WHERE")
	case api.StDelete:
		w.fixed("DELETE", "FROM")
		w.name(s.Table)
		w.part(s.Where, "WHERE")
	case api.StSelect:
		w.selects(s)
	}
}

// create writes a StCreate.
func (w *writer) create(s api.Statement) {
	w.fixed("CREATE", "TABLE")
	w.name(s.Table)
	w.fixed("(")
	list(w, ",", s.Columns, w.tableColumn)
	w.fixed(",", "PRIMARY", "KEY", "(")
	w.name(s.Primary)
	w.fixed(")", ")")
}

// tableColumn writes a column of a table.
func (w *writer) tableColumn(c api.Column) {
	w.name(c.Name)
	if c.Kind == api.KindNum {
		w.fixed("INT")
	} else {
		w.fixed("TEXT")
	}
	if c.NotNull {
		w.fixed("NOT", "NULL")
	}
	if c.Unique {
		w.fixed("UNIQUE")
	}
}

// values writes a row of values.
func (w *writer) values(l []api.Value) {
	w.fixed("(")
	list(w, ",", l, w.literal)
	w.fixed(")")
}

// set writes what a column is given.
func (w *writer) set(s api.Set) {
	w.name(s.Name)
	w.fixed("=")
	w.expr(s.Expr)
}

// selects writes a StSelect.
func (w *writer) selects(s api.Statement) {
	w.fixed("SELECT")
	list(w, ",", s.Items, w.item)
	w.fixed("FROM")
	w.name(s.Table)
	if s.Join != "" {
		w.fixed("JOIN")
		w.name(s.Join)
	}
	w.part(s.On, "ON")
	w.part(s.Where, "WHERE")
	w.part(s.Group, "GROUP", "BY")
	w.part(s.Order, "ORDER", "BY")
	if s.Desc {
		w.fixed("DESC")
	}
	if s.Limit != noLimit {
		w.fixed("LIMIT")
		w.number(s.Limit)
	}
}

// item writes something that is selected.
func (w *writer) item(i api.Item) {
	switch i.Kind {
	case api.ItemAll:
		w.fixed("*")
	case api.ItemExpr:
		w.expr(i.Args[0])
	case api.ItemRows:
		w.fixed("COUNT", "(", "*", ")")
	case api.ItemCount:
		w.call("COUNT", i.Args[0])
	case api.ItemSum:
		w.call("SUM", i.Args[0])
	case api.ItemMin:
		w.call("MIN", i.Args[0])
	case api.ItemMax:
		w.call("MAX", i.Args[0])
	}
}

// call writes a word and what it is of. Its brackets are the item's: they make nothing deeper.
func (w *writer) call(word string, e api.Expr) {
	w.fixed(word, "(")
	w.expr(e)
	w.fixed(")")
}

// part writes words and the expression behind them, if there is one.
func (w *writer) part(l []api.Expr, words ...string) {
	for _, e := range l {
		w.fixed(words...)
		w.expr(e)
	}
}

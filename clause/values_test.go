package clause_test

import (
	"strings"
	"testing"

	"clause/api"
	"clause/clause"
)

// oneRow makes a store with a table of one row, of a column of each type and of NULLs of each type.
func oneRow(t *testing.T) *clause.Store {
	t.Helper()
	return storeOf(t, "CREATE TABLE o (a INTEGER, b TEXT, c BOOLEAN, n INTEGER, s TEXT, u BOOLEAN)", "INSERT INTO o VALUES (5, 'x', TRUE, NULL, NULL, NULL)")
}

// wantValues holds the values of expressions against those that they must have, wherever an expression may stand.
func wantValues(t *testing.T, want map[string]string) {
	t.Helper()
	s := oneRow(t)
	for expr, value := range want {
		wantRows(t, s, "SELECT "+expr+" FROM o", 1, value)
		wantRows(t, s, "SELECT 1 FROM o WHERE ("+expr+") IS NULL", 1, map[bool]string{true: "1"}[value == "NULL"])
	}
}

// wantValueErrors holds the errors of expressions against those that they must have, wherever an expression may stand.
func wantValueErrors(t *testing.T, want map[string]api.Errno) {
	t.Helper()
	s := oneRow(t)
	for expr, errno := range want {
		wantError(t, s, errno, "SELECT "+expr+" FROM o", "SELECT 1 FROM o WHERE ("+expr+") IS NULL", "SELECT 1 FROM o ORDER BY "+expr,
			"DELETE FROM o WHERE ("+expr+") IS NULL OR TRUE", "UPDATE o SET c = ("+expr+") IS NULL", "UPDATE o SET a = 1 WHERE FALSE AND ("+expr+") IS NULL")
	}
}

func TestSumsAndDifferences(t *testing.T) { // P7
	wantValues(t, map[string]string{
		"a + 1": "6", "1 + 2": "3", "-1 + -2": "-3", "1 - 2": "-1", "a - a - a": "-5", "1 - -2": "3", "0 + 0": "0", "0 - 0": "0",
		"9223372036854775807 + 0": "9223372036854775807", "0 + 9223372036854775807": "9223372036854775807", "9223372036854775806 + 1": "9223372036854775807", "1 + 9223372036854775806": "9223372036854775807",
		"-9223372036854775807 + -1": "-9223372036854775808", "-1 + -9223372036854775807": "-9223372036854775808", "-9223372036854775808 + 0": "-9223372036854775808", "0 + -9223372036854775808": "-9223372036854775808",
		"9223372036854775807 + -9223372036854775808": "-1", "-9223372036854775808 + 9223372036854775807": "-1", "4611686018427387904 + 4611686018427387903": "9223372036854775807", "-4611686018427387904 + -4611686018427387904": "-9223372036854775808",
		"-9223372036854775807 - 1": "-9223372036854775808", "-9223372036854775808 - 0": "-9223372036854775808", "9223372036854775806 - -1": "9223372036854775807", "-1 - 9223372036854775807": "-9223372036854775808", "-1 - -9223372036854775808": "9223372036854775807",
		"-9223372036854775808 - -9223372036854775808": "0", "9223372036854775807 - 9223372036854775807": "0", "0 - 9223372036854775807": "-9223372036854775807", "0 - -9223372036854775807": "9223372036854775807", "-9223372036854775808 - -1": "-9223372036854775807", "9223372036854775807 - 1": "9223372036854775806",
	})
	wantValueErrors(t, map[string]api.Errno{
		"9223372036854775807 + 1": api.ErrOver, "1 + 9223372036854775807": api.ErrOver, "-9223372036854775808 + -1": api.ErrOver, "-1 + -9223372036854775808": api.ErrOver, "9223372036854775807 + 9223372036854775807": api.ErrOver, "-9223372036854775808 + -9223372036854775808": api.ErrOver, "4611686018427387904 + 4611686018427387904": api.ErrOver, "-4611686018427387905 + -4611686018427387904": api.ErrOver,
		"-9223372036854775808 - 1": api.ErrOver, "9223372036854775807 - -1": api.ErrOver, "0 - -9223372036854775808": api.ErrOver, "-2 - 9223372036854775807": api.ErrOver, "9223372036854775807 - -9223372036854775808": api.ErrOver, "-9223372036854775808 - 9223372036854775807": api.ErrOver, "1 - -9223372036854775807": api.ErrOver,
		"9223372036854775807 + a - a": api.ErrOver,
	})
}

func TestProductsAndNegatives(t *testing.T) { // P7
	wantValues(t, map[string]string{
		"2 * 3": "6", "-2 * 3": "-6", "2 * -3": "-6", "-2 * -3": "6", "0 * 5": "0", "a * a * a": "125", "0 * -9223372036854775808": "0", "-9223372036854775808 * 0": "0", "0 * 0": "0",
		"9223372036854775807 * 1": "9223372036854775807", "1 * 9223372036854775807": "9223372036854775807", "9223372036854775807 * -1": "-9223372036854775807", "-1 * 9223372036854775807": "-9223372036854775807", "-9223372036854775808 * 1": "-9223372036854775808", "1 * -9223372036854775808": "-9223372036854775808", "-9223372036854775807 * -1": "9223372036854775807", "-1 * -9223372036854775807": "9223372036854775807",
		"4611686018427387904 * -2": "-9223372036854775808", "-2 * 4611686018427387904": "-9223372036854775808", "2 * -4611686018427387904": "-9223372036854775808", "-4611686018427387904 * 2": "-9223372036854775808", "4611686018427387903 * 2": "9223372036854775806", "-2147483648 * 4294967296": "-9223372036854775808", "4294967296 * -2147483648": "-9223372036854775808", "3037000499 * 3037000499": "9223372030926249001", "7 * 1317624576693539401": "9223372036854775807", "1317624576693539401 * -7": "-9223372036854775807",
		"-a": "-5", "-(-a)": "5", "-(0 - 5)": "5", "-(1 - 1)": "0", "-(9223372036854775807 - 0)": "-9223372036854775807", "-(1 - 9223372036854775807 - 1)": "9223372036854775807",
	})
	wantValueErrors(t, map[string]api.Errno{
		"4611686018427387904 * 2": api.ErrOver, "2 * 4611686018427387904": api.ErrOver, "-4611686018427387904 * -2": api.ErrOver, "-2 * -4611686018427387904": api.ErrOver, "-4611686018427387905 * 2": api.ErrOver, "2 * -4611686018427387905": api.ErrOver, "3037000500 * 3037000500": api.ErrOver, "4294967296 * 4294967296": api.ErrOver, "4294967296 * 2147483648": api.ErrOver, "-4294967296 * -2147483648": api.ErrOver, "-9223372036854775808 * -1": api.ErrOver, "-1 * -9223372036854775808": api.ErrOver, "-9223372036854775808 * 2": api.ErrOver, "-9223372036854775808 * -9223372036854775808": api.ErrOver, "9223372036854775807 * 9223372036854775807": api.ErrOver, "9223372036854775807 * -2": api.ErrOver, "7 * 1317624576693539402": api.ErrOver, "3 * 6148914691236517206": api.ErrOver,
		"-(0 - 9223372036854775807 - 1)": api.ErrOver, "-(-9223372036854775808 + 0)": api.ErrOver,
	})
}

func TestQuotientsAndRemainders(t *testing.T) { // P7
	wantValues(t, map[string]string{
		"7 / 2": "3", "-7 / 2": "-3", "7 / -2": "-3", "-7 / -2": "3", "6 / 3": "2", "1 / 2": "0", "-1 / 2": "0", "1 / -2": "0", "0 / 5": "0", "0 / -5": "0", "a / a": "1",
		"7 % 2": "1", "-7 % 2": "-1", "7 % -2": "1", "-7 % -2": "-1", "6 % 3": "0", "-6 % 3": "0", "1 % 2": "1", "-1 % 2": "-1", "1 % -2": "1", "0 % 5": "0", "0 % -5": "0", "5 % 1": "0", "5 % -1": "0",
		"-9223372036854775808 / 1": "-9223372036854775808", "-9223372036854775807 / -1": "9223372036854775807", "9223372036854775807 / -1": "-9223372036854775807", "-9223372036854775808 / 2": "-4611686018427387904", "-9223372036854775808 / -2": "4611686018427387904", "-9223372036854775808 / -9223372036854775808": "1", "9223372036854775807 / -9223372036854775808": "0", "-9223372036854775808 / 9223372036854775807": "-1",
		"-9223372036854775808 % -1": "0", "-9223372036854775808 % 1": "0", "9223372036854775807 % -1": "0", "-9223372036854775808 % 9223372036854775807": "-1", "9223372036854775807 % -9223372036854775808": "9223372036854775807", "-9223372036854775808 % 10": "-8", "-9223372036854775808 % -10": "-8",
		"n / 0": "NULL", "n % 0": "NULL", "NULL / 0": "NULL", "NULL % 0": "NULL", "1 / n": "NULL", "1 % NULL": "NULL", "0 / n": "NULL", "n / n": "NULL", "(1 + n) / (a - a)": "NULL",
		"8 / 2 / 2": "2", "8 / (2 / 2)": "8", "7 - 7 / 3 * 3": "1", "2 + 3 * 4 - 5 % 3": "12",
	})
	wantValueErrors(t, map[string]api.Errno{
		"1 / 0": api.ErrZero, "1 % 0": api.ErrZero, "0 / 0": api.ErrZero, "0 % 0": api.ErrZero, "a / (a - 5)": api.ErrZero, "-9223372036854775808 / 0": api.ErrZero, "-9223372036854775808 % 0": api.ErrZero, "-1 / 0": api.ErrZero,
		"-9223372036854775808 / -1": api.ErrOver, "-9223372036854775808 / (4 - a)": api.ErrOver,
	})
}

func TestNulls(t *testing.T) { // P7
	wantValues(t, map[string]string{
		"NULL": "NULL", "n": "NULL", "s": "NULL", "u": "NULL", "n + 1": "NULL", "1 + n": "NULL", "n - 1": "NULL", "1 * n": "NULL", "-n": "NULL", "-NULL": "NULL", "NOT u": "NULL", "NOT NULL": "NULL", "s || 'x'": "NULL", "'x' || s": "NULL", "NULL || NULL": "NULL", "'' || NULL": "NULL", "NULL + NULL": "NULL", "9223372036854775807 + n": "NULL",
		"n = n": "NULL", "n <> n": "NULL", "NULL = NULL": "NULL", "a = n": "NULL", "n < 1": "NULL", "1 <= n": "NULL", "s > ''": "NULL", "'' >= s": "NULL", "u = TRUE": "NULL", "NULL <> 'x'": "NULL", "u = u": "NULL",
		"n IS NULL": "TRUE", "n IS NOT NULL": "FALSE", "a IS NULL": "FALSE", "a IS NOT NULL": "TRUE", "NULL IS NULL": "TRUE", "'' IS NULL": "FALSE", "0 IS NULL": "FALSE", "FALSE IS NULL": "FALSE", "(n = 1) IS NULL": "TRUE", "(n IS NULL) IS NULL": "FALSE", "(NULL AND FALSE) IS NULL": "FALSE", "s || b IS NOT NULL": "FALSE", "NOT n IS NULL": "FALSE",
	})
}

func TestTruths(t *testing.T) { // P7
	wantValues(t, map[string]string{
		"TRUE": "TRUE", "FALSE": "FALSE", "c": "TRUE", "NOT TRUE": "FALSE", "NOT FALSE": "TRUE", "NOT NOT c": "TRUE",
		"TRUE AND TRUE": "TRUE", "TRUE AND FALSE": "FALSE", "FALSE AND TRUE": "FALSE", "FALSE AND FALSE": "FALSE", "TRUE AND u": "NULL", "u AND TRUE": "NULL", "FALSE AND u": "FALSE", "u AND FALSE": "FALSE", "u AND u": "NULL", "NULL AND NULL": "NULL", "NULL AND FALSE": "FALSE", "FALSE AND NULL": "FALSE", "NULL AND TRUE": "NULL",
		"TRUE OR TRUE": "TRUE", "TRUE OR FALSE": "TRUE", "FALSE OR TRUE": "TRUE", "FALSE OR FALSE": "FALSE", "TRUE OR u": "TRUE", "u OR TRUE": "TRUE", "FALSE OR u": "NULL", "u OR FALSE": "NULL", "u OR u": "NULL", "NULL OR NULL": "NULL", "NULL OR TRUE": "TRUE", "TRUE OR NULL": "TRUE", "NULL OR FALSE": "NULL",
		"u AND FALSE OR TRUE": "TRUE", "NOT (u AND FALSE)": "TRUE", "NOT (u OR TRUE)": "FALSE", "u OR u AND FALSE": "NULL",
	})
	// All parts are found out, from the left, also where one alone would decide.
	wantValueErrors(t, map[string]api.Errno{
		"FALSE AND 1 / 0 = 1": api.ErrZero, "1 / 0 = 1 AND FALSE": api.ErrZero, "TRUE OR 1 / 0 = 1": api.ErrZero, "1 / 0 = 1 OR TRUE": api.ErrZero, "u AND 1 / 0 = 1": api.ErrZero, "u OR 1 / 0 = 1": api.ErrZero,
		"1 / 0 = 1 AND 9223372036854775807 + 1 = 1": api.ErrZero, "9223372036854775807 + 1 = 1 AND 1 / 0 = 1": api.ErrOver, "1 / 0 = 1 OR 9223372036854775807 + 1 = 1": api.ErrZero, "9223372036854775807 + 1 = 1 OR 1 / 0 = 1": api.ErrOver,
		"1 / 0 + (9223372036854775807 + 1)": api.ErrZero, "9223372036854775807 + 1 + 1 / 0": api.ErrOver, "1 + 9223372036854775807 - 1 / 0": api.ErrOver, "1 % 0 < -(0 - 9223372036854775807 - 1)": api.ErrZero, "-(0 - 9223372036854775807 - 1) < 1 % 0": api.ErrOver,
		"NULL + 1 / 0": api.ErrZero, "n * (1 / 0)": api.ErrZero, "n = 1 / 0": api.ErrZero, "1 / 0 = n": api.ErrZero, "n / (1 / 0)": api.ErrZero, "1 / 0 IS NULL": api.ErrZero, "(1 / 0) / 0": api.ErrZero, "(9223372036854775807 + 1) / 0": api.ErrOver,
	})
}

func TestComparisons(t *testing.T) { // P7
	signs := map[string][3]bool{"=": {false, true, false}, "<>": {true, false, true}, "<": {true, false, false}, "<=": {true, true, false}, ">": {false, false, true}, ">=": {false, true, true}}
	want := map[string]string{}
	for _, rising := range [][]string{
		{"-9223372036854775808", "-9223372036854775807", "-10", "-1", "0", "1", "9", "10", "9223372036854775807"},
		{"FALSE", "TRUE"},
		{"''", "' '", "'10'", "'9'", "'A'", "'B'", "'a'", "'a '", "'a''b'", "'aa'", "'ab'", "'b'", "'z'", "'é'", "'日'", "'\uffff'", "'😀'"},
	} {
		for i, left := range rising {
			for j, right := range rising {
				for sign, holds := range signs {
					order := 1
					if i < j {
						order = 0
					} else if i > j {
						order = 2
					}
					want[left+" "+sign+" "+right] = map[bool]string{true: "TRUE", false: "FALSE"}[holds[order]]
				}
			}
		}
	}
	wantValues(t, want)
	wantValues(t, map[string]string{"(1 < 2) = (2 < 3)": "TRUE", "a = 5": "TRUE", "b = 'x'": "TRUE", "b < 'X'": "FALSE", "c > FALSE": "TRUE", "a + 1 > a": "TRUE"})
}

func TestTexts(t *testing.T) { // P7
	x := func(n int) string { return strings.Repeat("x", n) }
	wantValues(t, map[string]string{
		"'a' || 'b'": "'ab'", "b || b || b": "'xxx'", "'' || ''": "''", "'it''s'": "'it's'", "'é' || '😀'": "'é😀'", "'--' || '\n'": "'--\n'",
		"'" + x(100) + "'": "'" + x(100) + "'", "'" + x(60) + "' || '" + x(40) + "'": "'" + x(100) + "'", "'" + x(100) + "' || ''": "'" + x(100) + "'", "'' || '" + x(100) + "'": "'" + x(100) + "'", "'" + x(99) + "' || b": "'" + x(100) + "'", "s || '" + x(100) + "'": "NULL",
		"'" + strings.Repeat("é", 25) + "' || '" + strings.Repeat("é", 25) + "'": "'" + strings.Repeat("é", 50) + "'",
	})
	wantValueErrors(t, map[string]api.Errno{
		"'" + x(101) + "'": api.ErrBig, "'" + x(100) + "' || b": api.ErrBig, "b || '" + x(100) + "'": api.ErrBig, "'" + x(51) + "' || '" + x(50) + "'": api.ErrBig, "'" + strings.Repeat("é", 50) + "' || 'x'": api.ErrBig, "'" + strings.Repeat("é", 51) + "'": api.ErrBig,
		"s || '" + x(101) + "'": api.ErrBig, "'" + x(101) + "' || s": api.ErrBig, "'" + x(101) + "' = '" + x(101) + "'": api.ErrBig, "'" + x(101) + "' = NULL": api.ErrBig, "'" + x(60) + "' || '" + x(60) + "' || s": api.ErrBig, "FALSE AND '" + x(101) + "' = ''": api.ErrBig,
		"'" + x(101) + "' = '' AND 1 / 0 = 1": api.ErrBig, "1 / 0 = 1 AND '" + x(101) + "' = ''": api.ErrZero,
	})
}

// typed: expressions by their types, with `any` for what fits all.
var typed = map[string][]string{
	"number": {"a", "n", "1", "-1", "-a", "a + 1", "a - n", "NULL * 1", "a / 1", "NULL % NULL", "-NULL"},
	"text":   {"b", "s", "'x'", "''", "b || s", "NULL || NULL", "'x' || NULL"},
	"truth":  {"c", "u", "TRUE", "FALSE", "NOT c", "NOT NULL", "c AND u", "NULL OR NULL", "(a = 1)", "(b < s)", "(NULL = NULL)", "(c >= NULL)", "(NULL IS NULL)", "(a IS NOT NULL)"},
	"any":    {"NULL"},
}

// isOf tells whether an expression of a type fits where one of another must stand.
func isOf(is, must string) bool { return is == must || is == "any" || must == "any" }

func TestTypesOfOperands(t *testing.T) { // P7
	s := storeOf(t, "CREATE TABLE o (a INTEGER, b TEXT, c BOOLEAN, n INTEGER, s TEXT, u BOOLEAN)")
	wantFit := func(fits bool, expr string) {
		t.Helper()
		text := "SELECT " + expr + " FROM o"
		if fits {
			wantRows(t, s, text, 1, "")
		} else {
			wantError(t, s, api.ErrType, text)
		}
	}
	operands := map[string]string{"+": "number", "-": "number", "*": "number", "/": "number", "%": "number", "||": "text", "AND": "truth", "OR": "truth"}
	for is, exprs := range typed {
		for _, expr := range exprs {
			wantFit(isOf(is, "number"), "- ("+expr+")")
			wantFit(isOf(is, "truth"), "NOT ("+expr+")")
			wantFit(true, "("+expr+") IS NULL")
			wantFit(true, "("+expr+") IS NOT NULL")
			for other, exprs := range typed {
				for _, right := range exprs {
					for sign, must := range operands {
						wantFit(isOf(is, must) && isOf(other, must), "("+expr+") "+sign+" ("+right+")")
					}
					for _, sign := range []string{"=", "<>", "<", "<=", ">", ">="} {
						wantFit(isOf(is, other), "("+expr+") "+sign+" ("+right+")")
					}
				}
			}
		}
	}
}

func TestTypesOfPlaces(t *testing.T) { // P7
	s := storeOf(t, "CREATE TABLE o (a INTEGER, b TEXT, c BOOLEAN, n INTEGER, s TEXT, u BOOLEAN)")
	columns := map[string]string{"a": "number", "b": "text", "c": "truth"}
	for is, exprs := range typed {
		for _, expr := range exprs {
			for _, text := range []string{"DELETE FROM o WHERE " + expr, "UPDATE o SET a = 1 WHERE " + expr, "UPDATE o SET a = NULL WHERE " + expr} {
				if isOf(is, "truth") {
					wantChanged(t, s, text, 0)
				} else {
					wantError(t, s, api.ErrType, text)
				}
			}
			for column, must := range columns {
				if text := "UPDATE o SET n = 1, " + column + " = " + expr; isOf(is, must) {
					wantChanged(t, s, text, 0)
				} else {
					wantError(t, s, api.ErrType, text)
				}
			}
			if text := "SELECT a FROM o WHERE " + expr; isOf(is, "truth") {
				wantRows(t, s, text, 1, "")
			} else {
				wantError(t, s, api.ErrType, text)
			}
			wantRows(t, s, "SELECT *, "+expr+" FROM o ORDER BY "+expr+" DESC", 7, "")
		}
	}
}

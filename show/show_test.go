package show

import (
	"testing"

	"spinet/api"
)

// row is a source, and how its module is written.
type row struct {
	source, text string
}

func mustShowRows(t *testing.T, ahead, behind, textAhead, textBehind string, rows []row) {
	t.Helper()
	for _, r := range rows {
		mustShow(t, mustParse(t, ahead+r.source+behind), textAhead+r.text+textBehind)
	}
}

func TestChapterExample(t *testing.T) {
	mustShow(t, mustParse(t, "MODULE A; BEGIN x := a + b * c END A."), "MODULE A ; BEGIN x := a + ( b * c ) END A .")
}

func TestNothingInIt(t *testing.T) {
	mustShow(t, api.Module{Name: "A"}, "MODULE A ; END A .")
	mustShow(t, api.Module{Name: "A", Imports: []api.Import{}, Procs: []api.Proc{}, Body: []api.Stat{}}, "MODULE A ; END A .")
	mustShow(t, api.Module{Name: times(api.MaxName, "n"), At: 77}, "MODULE "+times(api.MaxName, "n")+" ; END "+times(api.MaxName, "n")+" .")
}

func TestModules(t *testing.T) {
	mustShowRows(t, "MODULE A;", " END A.", "MODULE A ; ", "END A .", []row{
		{"", ""},
		{"BEGIN", ""},
		{"BEGIN ;;", ""},
		{"BEGIN x", "BEGIN x "},
		{"BEGIN ; x;; y; ", "BEGIN x ; y "},
		{"CONST TYPE VAR", ""},
		{"CONST c=1;", "CONST c = 1 ; "},
		{"CONST c*=1;d=c;e*=d;", "CONST c * = 1 ; d = c ; e * = d ; "},
		{"TYPE T=U;", "TYPE T = U ; "},
		{"TYPE T*=U;S=M.T;R*=S;", "TYPE T * = U ; S = M . T ; R * = S ; "},
		{"VAR v:T;", "VAR v : T ; "},
		{"VAR v*:T;", "VAR v * : T ; "},
		{"VAR u,v*,w:M.T;", "VAR u : M . T ; v * : M . T ; w : M . T ; "},
		{"VAR u:T;v*:T;w:U;", "VAR u : T ; v * : T ; w : U ; "},
		{"VAR u,v:RECORD a,b*:T END;", "VAR u : RECORD a : T ; b * : T END ; v : RECORD a : T ; b * : T END ; "},
		{"CONST c=1; VAR v:T;", "CONST c = 1 ; VAR v : T ; "},
		{"CONST TYPE T=U; VAR", "TYPE T = U ; "},
		{"CONST c=1; TYPE T=U; VAR v:T; PROCEDURE P; END P; BEGIN x", "CONST c = 1 ; TYPE T = U ; VAR v : T ; PROCEDURE P ( ) ; END P ; BEGIN x "},
		{"PROCEDURE P; END P;", "PROCEDURE P ( ) ; END P ; "},
		{"PROCEDURE P*; END P; PROCEDURE Q(); END Q; PROCEDURE P; END P;", "PROCEDURE P * ( ) ; END P ; PROCEDURE Q ( ) ; END Q ; PROCEDURE P ( ) ; END P ; "},
	})
}

func TestImports(t *testing.T) {
	mustShowRows(t, "MODULE A; IMPORT ", "; END A.", "MODULE A ; IMPORT ", " ; END A .", []row{
		{"B", "B"},
		{"B:=B", "B"},
		{"B:=C", "B := C"},
		{"A:=b, b:=A", "A := b , b := A"},
		{"B,C:=D,E:=E,F", "B , C := D , E , F"},
	})
	// As like as two names may be that are not the same.
	long := times(api.MaxName-1, "n")
	mustShow(t, api.Module{Name: "A", Imports: []api.Import{{Alias: long + "a", Name: long + "b"}, {Alias: "a", Name: "A"}, {Alias: "ab", Name: "a"}}},
		"MODULE A ; IMPORT "+long+"a := "+long+"b , a := A , ab := a ; END A .")
}

func TestProcedures(t *testing.T) {
	mustShowRows(t, "MODULE A; PROCEDURE ", " END P; END A.", "MODULE A ; PROCEDURE ", "END P ; END A .", []row{
		{"P;", "P ( ) ; "},
		{"P*;", "P * ( ) ; "},
		{"P();", "P ( ) ; "},
		{"P():T;", "P ( ) : T ; "},
		{"P*():M.T;", "P * ( ) : M . T ; "},
		{"P(a:T);", "P ( a : T ) ; "},
		{"P(VAR a:T);", "P ( VAR a : T ) ; "},
		{"P(a,b,c:T):T;", "P ( a : T ; b : T ; c : T ) : T ; "},
		{"P(VAR a,b:T;c:T;VAR d:T);", "P ( VAR a : T ; VAR b : T ; c : T ; VAR d : T ) ; "},
		{"P(a:ARRAY OF T);", "P ( a : ARRAY OF T ) ; "},
		{"P(VAR a,b:ARRAY OF ARRAY OF M.T);", "P ( VAR a : ARRAY OF ARRAY OF M . T ; VAR b : ARRAY OF ARRAY OF M . T ) ; "},
		{"P; BEGIN", "P ( ) ; "},
		{"P; BEGIN;", "P ( ) ; "},
		{"P; BEGIN x ", "P ( ) ; BEGIN x "},
		{"P; BEGIN x;y:=z; ", "P ( ) ; BEGIN x ; y := z "},
		{"P; RETURN x ", "P ( ) ; RETURN x "},
		{"P; BEGIN RETURN x ", "P ( ) ; RETURN x "},
		{"P; BEGIN x RETURN y ", "P ( ) ; BEGIN x RETURN y "},
		{"P; BEGIN x; y; RETURN -(a+b) ", "P ( ) ; BEGIN x ; y RETURN - ( a + b ) "},
		{"P; CONST TYPE VAR ", "P ( ) ; "},
		{"P; CONST c=1;d=2; ", "P ( ) ; CONST c = 1 ; d = 2 ; "},
		{"P; TYPE T=U;S=T; ", "P ( ) ; TYPE T = U ; S = T ; "},
		{"P; VAR v,w:T;x:U; ", "P ( ) ; VAR v : T ; w : T ; x : U ; "},
		{"P; VAR v:RECORD f*,g:T END; ", "P ( ) ; VAR v : RECORD f * : T ; g : T END ; "},
		{"P(a:T):T; CONST c=1; TYPE T=U; VAR v:T; BEGIN x RETURN y ", "P ( a : T ) : T ; CONST c = 1 ; TYPE T = U ; VAR v : T ; BEGIN x RETURN y "},
	})
}

func TestTypes(t *testing.T) {
	rows := []row{
		{"T", "T"},
		{"M.T", "M . T"},
		{"ARRAY 1 OF T", "ARRAY 1 OF T"},
		{"ARRAY n,2,k OF M.T", "ARRAY n , 2 , k OF M . T"},
		{"ARRAY 1 OF ARRAY 2 OF T", "ARRAY 1 OF ARRAY 2 OF T"},
		{"ARRAY (1+2),-a OF T", "ARRAY 1 + 2 , - a OF T"},
		{"POINTER TO T", "POINTER TO T"},
		{"POINTER TO RECORD END", "POINTER TO RECORD END"},
		{"RECORD END", "RECORD END"},
		{"RECORD ; ; END", "RECORD END"},
		{"RECORD (B) END", "RECORD ( B ) END"},
		{"RECORD (M.B) ; END", "RECORD ( M . B ) END"},
		{"RECORD a:T END", "RECORD a : T END"},
		{"RECORD a*:T; END", "RECORD a * : T END"},
		{"RECORD (B) a,b*,c:T;;d:U;e*:T END", "RECORD ( B ) a : T ; b * : T ; c : T ; d : U ; e * : T END"},
		{"RECORD a,b:POINTER TO RECORD c,d:T END END", "RECORD a : POINTER TO RECORD c : T ; d : T END ; b : POINTER TO RECORD c : T ; d : T END END"},
		{"PROCEDURE", "PROCEDURE ( )"},
		{"PROCEDURE()", "PROCEDURE ( )"},
		{"PROCEDURE():T", "PROCEDURE ( ) : T"},
		{"PROCEDURE():M.T", "PROCEDURE ( ) : M . T"},
		{"PROCEDURE(a:T)", "PROCEDURE ( a : T )"},
		{"PROCEDURE(VAR a,b:ARRAY OF T;c,d:M.U;VAR e:T):M.T", "PROCEDURE ( VAR a : ARRAY OF T ; VAR b : ARRAY OF T ; c : M . U ; d : M . U ; VAR e : T ) : M . T"},
		{"ARRAY 2 OF PROCEDURE", "ARRAY 2 OF PROCEDURE ( )"},
		{"RECORD a:PROCEDURE;b:PROCEDURE():T END", "RECORD a : PROCEDURE ( ) ; b : PROCEDURE ( ) : T END"},
	}
	mustShowRows(t, "MODULE A; TYPE T=", "; END A.", "MODULE A ; TYPE T = ", " ; END A .", rows)
	mustShowRows(t, "MODULE A; VAR v:", "; END A.", "MODULE A ; VAR v : ", " ; END A .", rows)
	mustShowRows(t, "MODULE A; PROCEDURE P; VAR v:", "; END P; END A.", "MODULE A ; PROCEDURE P ( ) ; VAR v : ", " ; END P ; END A .", rows)
	mustShowRows(t, "MODULE A; PROCEDURE P; TYPE T=RECORD f:", " END; END P; END A.", "MODULE A ; PROCEDURE P ( ) ; TYPE T = RECORD f : ", " END ; END P ; END A .", rows)
}

func TestStatements(t *testing.T) {
	rows := []row{
		{"x", "x"},
		{"x:=1", "x := 1"},
		{"x()", "x ( )"},
		{"x.y(1)^[2]:=z", "x . y ( 1 ) ^ [ 2 ] := z"},
		{"IF a THEN END", "IF a THEN END"},
		{"IF a THEN ; END", "IF a THEN END"},
		{"IF a THEN ELSE END", "IF a THEN ELSE END"},
		{"IF a THEN b;c ELSE d; END", "IF a THEN b ; c ELSE d END"},
		{"IF a THEN ELSIF b THEN END", "IF a THEN ELSIF b THEN END"},
		{"IF a THEN x ELSIF b THEN ; ELSIF c THEN y;z ELSE ; END", "IF a THEN x ELSIF b THEN ELSIF c THEN y ; z ELSE END"},
		{"IF a THEN IF b THEN ELSE END ELSE IF c THEN END END", "IF a THEN IF b THEN ELSE END ELSE IF c THEN END END"},
		{"CASE a OF END", "CASE a OF END"},
		{"CASE a OF | | END", "CASE a OF END"},
		{"CASE a OF 1: END", "CASE a OF 1 : END"},
		{"CASE a OF 1:| END", "CASE a OF 1 : END"},
		{"CASE a OF |1: ; || 2,3..4,5: x;;y | END", "CASE a OF 1 : | 2 , 3 .. 4 , 5 : x ; y END"},
		{"CASE a OF \"a\"..\"z\": CASE b OF 0AX: x END | 7: END", "CASE a OF \"a\" .. \"z\" : CASE b OF 0AX : x END | 7 : END"},
		{"WHILE a DO END", "WHILE a DO END"},
		{"WHILE a DO x END", "WHILE a DO x END"},
		{"WHILE a DO ; ELSIF b DO x;y; ELSIF c DO END", "WHILE a DO ELSIF b DO x ; y ELSIF c DO END"},
		{"REPEAT UNTIL a", "REPEAT UNTIL a"},
		{"REPEAT x;;y; UNTIL a=b", "REPEAT x ; y UNTIL a = b"},
		{"FOR i:=1 TO 2 DO END", "FOR i := 1 TO 2 DO END"},
		{"FOR i:=1 TO 2 BY 3 DO END", "FOR i := 1 TO 2 BY 3 DO END"},
		{"FOR i:=1 TO 2 BY 1 DO ; x;y END", "FOR i := 1 TO 2 BY 1 DO x ; y END"},
		{"FOR i:=-a TO b+1 BY -1 DO FOR j:=1 TO 2 DO END END", "FOR i := - a TO b + 1 BY - 1 DO FOR j := 1 TO 2 DO END END"},
	}
	mustShowRows(t, "MODULE A; BEGIN ", " END A.", "MODULE A ; BEGIN ", " END A .", rows)
	mustShowRows(t, "MODULE A; BEGIN ;;", ";; END A.", "MODULE A ; BEGIN ", " END A .", rows)
	mustShowRows(t, "MODULE A; PROCEDURE P; BEGIN p;", ";q RETURN r END P; END A.", "MODULE A ; PROCEDURE P ( ) ; BEGIN p ; ", " ; q RETURN r END P ; END A .", rows)
	mustShowRows(t, "MODULE A; BEGIN REPEAT ", " UNTIL u END A.", "MODULE A ; BEGIN REPEAT ", " UNTIL u END A .", rows)
	mustShowRows(t, "MODULE A; BEGIN IF a THEN ", " ELSE END END A.", "MODULE A ; BEGIN IF a THEN ", " ELSE END END A .", rows)
}

func TestExpressions(t *testing.T) {
	rows := []row{
		{"NIL", "NIL"},
		{"TRUE", "TRUE"},
		{"FALSE", "FALSE"},
		{"{}", "{ }"},
		{"{1}", "{ 1 }"},
		{"{1,2..3,a+b..c,{}}", "{ 1 , 2 .. 3 , a + b .. c , { } }"},
		{"(((a)))", "a"},
		{"a.b", "a . b"},
		{"a[1]", "a [ 1 ]"},
		{"a[1,2,3]", "a [ 1 ] [ 2 ] [ 3 ]"},
		{"a[1][2,b[3,4]]", "a [ 1 ] [ 2 ] [ b [ 3 ] [ 4 ] ]"},
		{"a^", "a ^"},
		{"a()", "a ( )"},
		{"a(1)", "a ( 1 )"},
		{"a(1,b(),(c))(2)", "a ( 1 , b ( ) , c ) ( 2 )"},
		{"a.b[1](2)^.c", "a . b [ 1 ] ( 2 ) ^ . c"},
		{"-a", "- a"},
		{"+1", "+ 1"},
		{"~a", "~ a"},
		{"~~a", "~ ( ~ a )"},
		{"~~~a", "~ ( ~ ( ~ a ) )"},
		{"-(-a)", "- ( - a )"},
		{"-a*b", "- ( a * b )"},
		{"(-a)*b", "( - a ) * b"},
		{"-a+b", "( - a ) + b"},
		{"-(a+b)", "- ( a + b )"},
		{"~a&b", "( ~ a ) & b"},
		{"a+b+c", "( a + b ) + c"},
		{"a+(b+c)", "a + ( b + c )"},
		{"a*b+c", "( a * b ) + c"},
		{"a DIV b MOD c", "( a DIV b ) MOD c"},
		{"a=b", "a = b"},
		{"(a=b)=(c#d)", "( a = b ) = ( c # d )"},
		{"a+1<=b*2", "( a + 1 ) <= ( b * 2 )"},
		{"a IN {1}", "a IN { 1 }"},
		{"a.b IS M.T", "a . b IS M . T"},
		{"a OR b & ~c", "a OR ( b & ( ~ c ) )"},
		{"f(a+b)", "f ( a + b )"},
		{"a[-b]", "a [ - b ]"},
	}
	mustShowRows(t, "MODULE A; CONST c=", "; END A.", "MODULE A ; CONST c = ", " ; END A .", rows)
	mustShowRows(t, "MODULE A; BEGIN x:=", " END A.", "MODULE A ; BEGIN x := ", " END A .", rows)
}

func TestNumbersAndTexts(t *testing.T) {
	long := times(api.MaxString, "t")
	for _, x := range []struct {
		e    api.Expr
		text string
	}{
		{anInt(0), "0"},
		{anInt(7), "7"},
		{anInt(255), "255"},
		{anInt(1<<31 - 1), "2147483647"},
		{anInt(-1), "0FFFFFFFFH"},
		{anInt(-16), "0FFFFFFF0H"},
		{anInt(-1 << 31), "080000000H"},
		{aChar(0), "0X"},
		{aChar(9), "9X"},
		{aChar(10), "0AX"},
		{aChar(15), "0FX"},
		{aChar(16), "10X"},
		{aChar(0x9f), "9FX"},
		{aChar(0xa0), "0A0X"},
		{aChar(255), "0FFX"},
		{aText(""), `""`},
		{aText(" "), `" "`},
		{aText("a  b"), `"a  b"`},
		{aText("END ( * ' . (* *)"), `"END ( * ' . (* *)"`},
		{aText("\x7f\x80\xff"), "\"\x7f\x80\xff\""},
		{aText(long), `"` + long + `"`},
	} {
		mustShow(t, inConst(x.e), "MODULE A ; CONST c = "+x.text+" ; END A .")
		mustShow(t, inConst(unary("-", x.e)), "MODULE A ; CONST c = - "+x.text+" ; END A .")
		mustShow(t, inConst(binary("+", x.e, x.e)), "MODULE A ; CONST c = "+x.text+" + "+x.text+" ; END A .")
	}
	for n := range 256 {
		text := ""
		for _, d := range []int{n / 16, n % 16} {
			text += "0123456789ABCDEF"[d : d+1]
		}
		if text[0] == '0' && text[1] <= '9' {
			text = text[1:]
		} else if text[0] > '9' {
			text = "0" + text
		}
		mustShow(t, inConst(aChar(n)), "MODULE A ; CONST c = "+text+"X ; END A .")
	}
}

// Places are not written, and tell nothing.
func TestPlacesAside(t *testing.T) {
	for _, s := range sources {
		m := mustParse(t, s)
		want, _ := Module(m)
		spaced, _ := Module(mustParse(t, "\n (* a *) "+s+"\n"))
		if want == "" || spaced != want {
			t.Errorf("%s, want %s", spaced, want)
		}
		mustShow(t, withPlaces(m, 0), want[:len(want)-1])
		mustShow(t, withPlaces(m, -7), want[:len(want)-1])
	}
}

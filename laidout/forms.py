"""The forms of programs, and what stands before each of their tokens.

A form has rows: the kinds of the next token for which the row is taken (none at all: any), and what it's made of.
A word that begins with one capital letter is a form; "!" is the token that's next, whatever it is; all other words
are kinds of tokens, but for:
_       a blank is told before the next token (where nothing is said, nothing is told)
|       a line's end is told before the next token
@decl   a declaration begins
@in     a block begins within its brace
@out    a block's closing brace comes next
@start  what may be a group begins
@may    the innermost group is one, and the next token has a blank or a line's end before it
@end    the innermost group, if it is one, ended with the last token
@first  a group of what stands in brackets begins
@late   what began in brackets turns out to be a group
@last   the innermost group's closing bracket comes next
"""

TOLD = {"_": "one", "|": "line"}

FORMS = {
    "Program": (((), "| module _ NAME Uses Decls"),),
    "Uses": ((("use",), "| use _ NAME Uses"), ((), "")),
    "Decls": ((("END",), ""), ((), "@decl | Decl Decls")),
    "Decl": (
        (("let",), "Let"),
        (("record",), "record _ NAME _ { Fields }"),
        (("account",), "account _ NAME _ CODE"),
        (("fn",), "fn _ NAME Names ( Fields ) Result _ Block"),
    ),
    "Let": (((), "let _ NAME Sorted _ = _ Expr"),),
    "Sorted": (((":",), ": _ Sort"), ((), "")),
    "Names": ((("[",), "[ NAME Morenames ]"), ((), "")),
    "Morenames": (((",",), ", _ NAME Morenames"), ((), "")),
    "Fields": (((")", "}"), ""), ((), "@first Field Morefields @last")),
    "Field": (((), "NAME : _ Sort"),),
    "Morefields": (((",",), ", @may Field Morefields"), ((), "")),
    "Result": ((("->",), "_ -> _ Sort"), ((), "")),
    "Sort": (
        (("whole", "fraction", "decimal", "half", "single", "double", "extended", "interval", "truth"), "!"),
        (("text", "flags", "error", "account", "value"), "!"),
        (("packed",), "packed _ NUMBER"),
        (("list",), "list _ of _ Sort"),
        (("fibre",), "fibre Fibreof"),
        (("fn",), "fn ( Sorts ) Result"),
        (("NAME",), "NAME Pointname"),
    ),
    "Fibreof": ((("of",), "_ of _ Sort"), ((), "")),
    "Sorts": (((")",), ""), ((), "Sort Moresorts")),
    "Moresorts": (((",",), ", _ Sort Moresorts"), ((), "")),
    "Pointname": (((".",), ". NAME"), ((), "")),
    "Block": (((), "{ @in Statements @out }"),),
    "Statements": ((("}",), ""), ((), "| Statement Statements")),
    "Statement": (
        (("let",), "Let"),
        (("NAME",), "NAME Chain"),
        (("flags",), "flags _ = _ Expr"),
        (("if",), "if _ Expr _ Block Else"),
        (("while",), "while _ Expr _ Block"),
        (("for",), "for _ NAME _ in _ Expr To _ Block"),
        (("match",), "match _ Expr _ { @in Cases @out }"),
        (("return",), "return _ Expr"),
        (("leave", "break", "next"), "!"),
        (("with",), "with _ Mode Moremodes _ Block"),
        (("try",), "try _ Block Handlers"),
        (("raise",), "raise _ Expr"),
        (("say",), "say _ @start Expr Moreexprs @end"),
        (("yield",), "yield _ Expr Into"),
        (("post",), "post _ Expr : _ Expr _ from _ Expr Posttext"),
    ),
    "Chain": (
        (("(",), "( Args ) Called"),
        (("[",), "[ Expr ] Chain"),
        ((".",), ". NAME Chain"),
        (("=",), "_ = _ Expr"),
    ),
    "Called": ((("(",), "( Args ) Called"), (("[",), "[ Expr ] Chain"), ((".",), ". NAME Chain"), ((), "")),
    "Else": ((("else",), "_ else _ Otherwise"), ((), "")),
    "Otherwise": ((("if",), "if _ Expr _ Block Else"), ((), "Block")),
    "To": ((("to",), "_ to _ Expr"), ((), "")),
    "Cases": ((("is",), "| is _ Sort _ NAME _ Block Cases"), (("else",), "| else _ Block"), ((), "")),
    "Handlers": ((("catch",), "_ catch _ NAME _ Block Finally"), (("finally",), "_ finally _ Block")),
    "Finally": ((("finally",), "_ finally _ Block"), ((), "")),
    "Into": ((("into",), "_ into _ NAME"), ((), "")),
    "Posttext": ((("TEXT",), "_ TEXT"), ((), "")),
    "Mode": (
        (("rounding",), "rounding _ Rounding"),
        (("precision",), "precision _ NUMBER"),
        (("trap",), "trap _ Oneflag Traps"),
        (("flush",), "flush _ Flush"),
    ),
    "Moremodes": (((",",), ", _ Mode Moremodes"), ((), "")),
    "Rounding": ((("near", "down", "up", "cut"), "!"),),
    "Flush": ((("in", "out", "both"), "!"),),
    "Oneflag": ((("invalid", "small", "zero", "overflow", "underflow", "inexact", "stack"), "!"),),
    "Traps": (
        (("invalid", "small", "zero", "overflow", "underflow", "inexact", "stack"), "_ Oneflag Traps"),
        ((), ""),
    ),
    "Someflags": (((")",), ""), ((), "Oneflag Moreflags")),
    "Moreflags": (((",",), ", _ Oneflag Moreflags"), ((), "")),
    "Args": (((")",), ""), ((), "@first Expr Moreexprs @last")),
    "Moreexprs": (((",",), ", @may Expr Moreexprs"), ((), "")),
    "Expr": ((("if",), "@start if _ Expr @may then _ Expr @may else _ Expr @end"), ((), "Either")),
    "Either": (((), "@start Both Moreor @end"),),
    "Moreor": ((("or",), "@may or _ Both Moreor"), ((), "")),
    "Both": (((), "@start Negated Moreand @end"),),
    "Moreand": ((("and",), "@may and _ Negated Moreand"), ((), "")),
    "Negated": ((("not",), "not _ Negated"), ((), "Comparison")),
    "Comparison": (((), "@start Cast Compared @end"),),
    "Compared": ((("==", "!=", "<", "<=", ">", ">="), "@may ! _ Cast"), ((), "")),
    "Cast": (((), "Sum Casts"),),
    "Casts": ((("as",), "_ as _ Sort Castnumber Castround Casts"), ((), "")),
    "Castnumber": ((("NUMBER",), "_ NUMBER"), ((), "")),
    "Castround": ((("near", "down", "up", "cut", "nearaway", "nearcut", "away", "five"), "_ !"), ((), "")),
    "Sum": (((), "@start Product Moresum @end"),),
    "Moresum": ((("+", "-"), "@may ! _ Product Moresum"), ((), "")),
    "Product": (((), "@start Signed Moreproduct @end"),),
    "Moreproduct": ((("*", "/", "//", "PERCENT"), "@may ! _ Signed Moreproduct"), ((), "")),
    "Signed": (
        (("-",), "- Signed"),
        (("spawn",), "spawn _ Value"),
        (("resume",), "resume _ Value Giving"),
        (("picture",), "picture _ TEXT _ of _ Value"),
        ((), "Value Power"),
    ),
    "Giving": ((("giving",), "_ giving _ Signed"), ((), "")),
    "Power": ((("^",), "_ ^ _ Signed"), ((), "")),
    "Value": (((), "First Suffixes"),),
    "Suffixes": ((("(",), "( Args ) Suffixes"), (("[",), "[ Expr ] Suffixes"), ((".",), ". NAME Suffixes"), ((), "")),
    "First": (
        (("NUMBER", "TEXT", "true", "false", "flags", "NAME", "CODE"), "!"),
        (("only",), "only ( Someflags )"),
        (("(",), "( Expr )"),
        (("[",), "[ Listed ]"),
        (("make",), "make _ NAME Pointname ( Made )"),
    ),
    "Listed": ((("]",), ""), ((), "@start Expr Listrest")),
    "Listrest": ((("..",), "@end _ .. _ Expr"), ((), "@late Moreexprs @last")),
    "Made": (((")",), ""), ((), "@first Named Morenamed @last")),
    "Named": (((), "NAME : _ Expr"),),
    "Morenamed": (((",",), ", @may Named Morenamed"), ((), "")),
}

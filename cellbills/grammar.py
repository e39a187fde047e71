"""What a right text is, as rules for one who reads from the left and looks one token ahead.

A rule is called `@..`, a deed that notes what was read `!..`; everything else is a token:
`W` a word, `K` a kind, `N` a number, `M` one behind a `-`, `$` the text's end, or a sign.
What a rule becomes is told by the token ahead, by "" where all others lead to the same.
"""

RULES = {
    ("@text", "kind"): ("@kinds", "@text"),
    ("@text", "calls"): ("@calls", "@text"),
    ("@text", ""): ("@functions",),
    ("@functions", "fun"): ("@function", "@functions"),
    ("@functions", ""): ("$",),

    ("@kinds", ""): ("kind", "W", "=", "!mark", "@maker", "@makers", "!choice"),
    ("@makers", "|"): ("|", "@maker", "@makers"),
    ("@makers", ""): (),
    ("@maker", ""): ("W", "[", "!mark", "@wanted", "]", "!maker"),
    ("@calls", ""): ("calls", "W", "=", "(", "!mark", "@wanted", ")", "to", "K", "!calls"),
    ("@wanted", ")"): (),
    ("@wanted", "]"): (),
    ("@wanted", ""): ("K", "@more wanted"),
    ("@more wanted", ","): (",", "K", "@more wanted"),
    ("@more wanted", ""): (),

    ("@function", ""): ("fun", "!begin", "W", "(", "!mark", "@parameters", ")", ":", "K", "=",
                        "@body", "!function"),
    ("@parameters", ")"): (),
    ("@parameters", ""): ("@parameter", "@more parameters"),
    ("@more parameters", ","): (",", "@parameter", "@more parameters"),
    ("@more parameters", ""): (),
    ("@parameter", ""): ("W", ":", "K", "!parameter"),

    ("@body", "let"): ("let", "W", "=", "@any", ";", "!let", "@body"),
    ("@body", "drop"): ("drop", "W", "!name", ";", "!drop", "@body"),
    ("@body", "raise"): ("raise", "@any", "!raise"),
    ("@body", "go"): ("go", "@go"),
    ("@body", "if"): ("if", "@any", "then", "!test", "!end of test", "@body",
                      "else", "!end of test", "@body", "!close"),
    ("@body", "match"): ("match", "@any", "{", "!take", "@way", "@ways", "}", "!close"),
    ("@body", "try"): ("try", "W", "=", "W", "@names", "then", "!try", "@body",
                       "catch", "W", "then", "!catch", "@body", "!close"),
    ("@body", ""): ("@any", "!end"),
    ("@go", "use"): ("use", "W", "!name", "@names", "!usego"),
    ("@go", ""): ("W", "@names", "!go"),
    ("@ways", "W"): ("@way", "@ways"),
    ("@ways", ""): (),
    ("@way", ""): ("W", "[", "!mark", "@words", "]", ":", "!way", "@body"),
    ("@words", "]"): (),
    ("@words", ""): ("W", "@more words"),
    ("@more words", ","): (",", "W", "@more words"),
    ("@more words", ""): (),

    ("@any", ""): ("@both", "@more any"),
    ("@more any", "|"): ("|", "@both", "!any", "@more any"),
    ("@more any", ""): (),
    ("@both", ""): ("@not", "@more both"),
    ("@more both", "&"): ("&", "@not", "!both", "@more both"),
    ("@more both", ""): (),
    ("@not", "not"): ("not", "@not", "!not"),
    ("@not", ""): ("@sum", "@less"),
    ("@less", "<"): ("<", "@sum", "!less"),
    ("@less", "="): ("=", "@sum", "!same"),
    ("@less", ""): (),
    ("@sum", ""): ("@product", "@more sum"),
    ("@more sum", "+"): ("+", "@product", "!plus", "@more sum"),
    ("@more sum", "-"): ("-", "@product", "!minus", "@more sum"),
    ("@more sum", ""): (),
    ("@product", ""): ("@part", "@more product"),
    ("@more product", "*"): ("*", "@part", "!times", "@more product"),
    ("@more product", "/"): ("/", "@part", "!over", "@more product"),
    ("@more product", "~"): ("~", "@part", "!rest", "@more product"),
    ("@more product", ""): (),

    ("@part", "N"): ("N", "!number"),
    ("@part", "-"): ("-", "M", "!less than 0"),
    ("@part", "yes"): ("yes", "!yes"),
    ("@part", "no"): ("no", "!no"),
    ("@part", "keep"): ("keep", "W", "W", "@names", "!keep"),
    ("@part", "use"): ("use", "W", "!name", "@names", "!use"),
    ("@part", "("): ("(", "@any", ")"),
    ("@part", ""): ("W", "@behind word"),
    ("@behind word", "["): ("[", "!mark", "@list", "]", "!make"),
    ("@behind word", "("): ("@names", "!call"),
    ("@behind word", ""): ("!name",),
    ("@names", ""): ("(", "!mark", "@list", ")"),
    ("@list", ")"): (),
    ("@list", "]"): (),
    ("@list", ""): ("@any", "@more list"),
    ("@more list", ","): (",", "@any", "@more list"),
    ("@more list", ""): (),
}


def ruled(rule, ahead):
    """Return what a rule becomes where this token is ahead."""
    if (rule, ahead) in RULES:
        return RULES[rule, ahead]
    return RULES[rule, ""]

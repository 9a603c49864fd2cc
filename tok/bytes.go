package tok

// span is how many bytes of a kind a text begins with.
func span(text string, is func(c byte) bool) int {
	n := 0
	for n < len(text) && is(text[n]) {
		n++
	}
	return n
}

func isBlank(c byte) bool { return c == 9 || c == 13 || c == 32 }

func isBreak(c byte) bool { return c == '\n' || c == ';' }

func isSign(c byte) bool { return c == '{' || c == '}' || c == '=' }

func isDigit(c byte) bool { return c >= '0' && c <= '9' }

func isLetter(c byte) bool { return c >= 'A' && c <= 'Z' || c >= 'a' && c <= 'z' }

// isWord tells whether a byte is one of words.
func isWord(c byte) bool {
	return isLetter(c) || isDigit(c) || c == '-' || c == '_' || c == '.' || c == ':'
}

// isControl tells whether a byte may not stand in quotes.
func isControl(c byte) bool { return c < 32 || c == 127 }

// inLine tells whether a byte is one of a line: it doesn't end a remark that goes to the line's end.
func inLine(c byte) bool { return c != '\n' }

package tool

import "testing"

// dfHead is the row of the heads of a narrow table.
const dfHead = "Device 1K-blocks Used Available Use% Mounted"

// devices is a site with three devices, one in the other.
func devices(t *testing.T) site {
	s := newSite(t)
	s.file(0, "f", 20000)
	d := s.cover(s.dir(0, "d"))
	s.file(d, "g", 1)
	s.cover(s.dir(d, "e x"))
	s.link(0, "to", "d")
	s.link(0, "lost", "gone")
	return s
}

// P17.1: B's value is all there is of each device; without it there is none.
func TestDf(t *testing.T) {
	s := devices(t)
	none := []string{dfHead, "1              0   28         0 100% /", "2              0   12         0 100% /d", "3              0    4         0 100% /d/e x"}
	s.tells("df", none...)
	s.tells("df -B 0", none...)
	s.tells("df -B0", none...)
	hundred := []string{dfHead, "1            100   28        72  28% /", "2            100   12        88  12% /d", "3            100    4        96   4% /d/e x"}
	s.tells("df -B 100", hundred...)
	s.tells("df -B100", hundred...)
	s.tells("df -B 7 -B 100", hundred...)
	s.tells("df -B100 -- ", hundred...)
	s.tells("df -B 12", dfHead, "1             12   28         0 100% /", "2             12   12         0 100% /d", "3             12    4         8  34% /d/e x")
	s.tells("df -B 65535", dfHead, "1          65535   28     65507   1% /", "2          65535   12     65523   1% /d", "3          65535    4     65531   1% /d/e x")
	s.tells("df -B 1", dfHead, "1              1   28         0 100% /", "2              1   12         0 100% /d", "3              1    4         0 100% /d/e x")
}

// P17.1: operands choose no device; they are walked, the last link followed.
func TestDfOperands(t *testing.T) {
	s := devices(t)
	table := []string{dfHead, "1              0   28         0 100% /", "2              0   12         0 100% /d", "3              0    4         0 100% /d/e x"}
	for _, command := range []string{"df f", "df / d d", "df to", "df to/ d/g", "df -- ."} {
		s.tells(command, table...)
	}
	s.fails("df gone", errs("df: 'gone': No such file or directory"), table...)
	s.fails("df d lost f/ / gone", errs(
		"df: 'lost': No such file or directory", "df: 'f/': Not a directory", "df: 'gone': No such file or directory",
	), table...)
	s.failsArgs(args("df", "-B10", "", "d/e x", "a b"), errs("df: '': No such file or directory", "df: 'a b': No such file or directory"),
		dfHead, "1             10   28         0 100% /", "2             10   12         0 100% /d", "3             10    4         6  40% /d/e x")
	s.refuses("d", "df", "-B", "d")
}

// P17.1: a device that isn't to be found, and one of great files.
func TestDfOfHiddenDevices(t *testing.T) {
	s := newSite(t)
	d := s.dir(0, "d")
	s.cover(s.dir(d, "e"))
	s.tells("df", dfHead, "1              0   12         0 100% /", "2              0    4         0 100% /d/e")
	s.cover(d)
	s.tells("df", dfHead, "1              0   12         0 100% /", "2              0    4         0 100% ?", "3              0    4         0 100% /d")
	s.file(0, "great", 1<<62)
	s.tells("df -B 5",
		"Device 1K-blocks             Used Available Use% Mounted",
		"1              5 4503599627370508         0 100% /",
		"2              5                4         1  80% ?",
		"3              5                4         1  80% /d")
	s.unreadable(0)
	s.by(5).tells("df",
		"Device 1K-blocks             Used Available Use% Mounted",
		"1              0 4503599627370508         0 100% /",
		"2              0                4         0 100% ?",
		"3              0                4         0 100% ?")
}

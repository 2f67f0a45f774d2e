package spotter

// dice: a row of numbers that is the same in every run.
type dice uint64

// roll answers a number from 0 to n - 1.
func (d *dice) roll(n int) int {
	*d = *d*6364136223846793005 + 1442695040888963407
	return int(uint64(*d)>>33) % n
}

func (d *dice) pick(letters string) string {
	i := d.roll(len(letters))
	return letters[i : i+1]
}

func (d *dice) text(letters string, most int) string {
	text := ""
	for n := d.roll(most + 1); n > 0; n-- {
		text += d.pick(letters)
	}
	return text
}

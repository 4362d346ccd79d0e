package scout

// mix: nodes change places as a draw tells, so that not all ask one node at a time.
func mix(nodes []int, draw int) {
	for i := len(nodes) - 1; i > 0; i-- {
		j := remainder(draw, i+1)
		nodes[i], nodes[j] = nodes[j], nodes[i]
		draw /= i + 1
	}
}

// remainder: n modulo a number above 0, never below 0.
func remainder(n, by int) int {
	r := n % by
	if r < 0 {
		r += by
	}
	return r
}

package digest

const maxRounds = 80

// rule is all in which the two digests differ beside the width of their words. The upper turns are those of the rounds, the lower ones those of the block's further words.
type rule struct {
	rounds    int
	upperZero [3]uint
	upperOne  [3]uint
	lowerZero [3]uint
	lowerOne  [3]uint
}

func ruleOf[W Word]() rule {
	if width[W]() == 32 {
		return rule{
			rounds:    64,
			upperZero: [3]uint{2, 13, 22},
			upperOne:  [3]uint{6, 11, 25},
			lowerZero: [3]uint{7, 18, 3},
			lowerOne:  [3]uint{17, 19, 10},
		}
	}
	return rule{
		rounds:    maxRounds,
		upperZero: [3]uint{28, 34, 39},
		upperOne:  [3]uint{14, 18, 41},
		lowerZero: [3]uint{1, 8, 7},
		lowerOne:  [3]uint{19, 61, 6},
	}
}

func turned[W Word](x W, by uint) W { return x>>by | x<<(width[W]()-by) }

func upper[W Word](x W, by [3]uint) W {
	return turned(x, by[0]) ^ turned(x, by[1]) ^ turned(x, by[2])
}

func lower[W Word](x W, by [3]uint) W {
	return turned(x, by[0]) ^ turned(x, by[1]) ^ x>>by[2]
}

// mixed is the state behind one more block.
func mixed[W Word](state [8]W, block [blockWords]W) [8]W {
	by := ruleOf[W]()
	words := spread(block, by)
	a, b, c, d := state[0], state[1], state[2], state[3]
	e, f, g, h := state[4], state[5], state[6], state[7]
	for t := range by.rounds {
		one := h + upper(e, by.upperOne) + (e&f ^ ^e&g) + firstBits[W](cubeRoots[t]) + words[t]
		two := upper(a, by.upperZero) + (a&b ^ a&c ^ b&c)
		h, g, f, e = g, f, e, d+one
		d, c, b, a = c, b, a, one+two
	}
	for i, x := range [8]W{a, b, c, d, e, f, g, h} {
		state[i] += x
	}
	return state
}

// spread makes of a block's words one word for each round.
func spread[W Word](block [blockWords]W, by rule) [maxRounds]W {
	var words [maxRounds]W
	copy(words[:], block[:])
	for t := blockWords; t < by.rounds; t++ {
		words[t] = lower(words[t-2], by.lowerOne) + words[t-7] + lower(words[t-15], by.lowerZero) + words[t-16]
	}
	return words
}

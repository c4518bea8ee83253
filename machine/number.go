package machine

import (
	"strconv"
	"strings"
)

// digits is how many digits of a number lie in one word.
const digits = 18

// numsOf is a number's text in words, the highest first; each of them is below 0, or 0, where the number is below 0.
func numsOf(text string) (nums []int) {
	left, below := strings.CutPrefix(text, "-")
	for len(left) > 0 {
		n := (len(left)-1)%digits + 1
		num, _ := strconv.Atoi(left[:n])
		if below {
			num = -num
		}
		nums, left = append(nums, num), left[n:]
	}
	return nums
}

// textOf is the number's text of such words.
func textOf(nums []int) string {
	var s strings.Builder
	for i, num := range nums {
		if i == 0 {
			s.WriteString(strconv.Itoa(num))
			continue
		}
		part := strconv.Itoa(max(num, -num))
		s.WriteString(strings.Repeat("0", digits-len(part)))
		s.WriteString(part)
	}
	return s.String()
}

package cmd

import (
	"os"
	"strings"
	"testing"

	"sapling/api"
)

// The script that README.md shows says what README.md says of it.
func TestReadme(t *testing.T) {
	b, err := os.ReadFile("../README.md")
	if err != nil {
		t.Fatal(err)
	}
	var blocks []string
	for _, part := range strings.Split(string(b), "\n\n") {
		if strings.HasPrefix(part, "    ") {
			blocks = append(blocks, strings.ReplaceAll(part[4:], "\n    ", "\n"))
		}
	}
	got, at, e := Run(blocks[1])
	if at != 0 || e != api.OK || !strings.HasSuffix(got, "\nok\n"+blocks[2]+"\n") {
		t.Errorf("%s, %d, %d", got, at, e)
	}
}

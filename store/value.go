package store

import (
	"weirkeep/api"
	"weirkeep/field"
)

const verBytes = 8

// Value tells a version and data as the Data of a message. The writer's errors need no look: it takes all that is within these limits.
func Value(ver int, data string) (string, api.Errno) {
	if ver < 0 || ver > api.MaxSeq {
		return "", api.ErrArg
	}
	if len(data) > api.MaxData {
		return "", api.ErrLong
	}
	w := field.NewWriter()
	w.Num(ver, verBytes)
	w.Text(data)
	return w.Bytes(), api.OK
}

// Parse tells the version and the data of which s is the Value. The reader's errors need no look: what could not be read is not s once more.
func Parse(s string) (int, string, api.Errno) {
	r := field.NewReader(s)
	ver, _ := r.Num(verBytes)
	data, _ := r.Text()
	if again, e := Value(ver, data); e != api.OK || again != s {
		return 0, "", api.ErrWire
	}
	return ver, data, api.OK
}

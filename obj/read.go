package obj

import (
	"dowel/api"
	"dowel/bio"
)

// noBase is the byte that is written for Base -1.
const noBase = 255

// readMark tells whether what comes next is what an object's bytes begin with.
func readMark(r *bio.Reader) bool {
	for i := range len(mark) {
		if r.Number(1) != uint32(mark[i]) {
			return false
		}
	}
	return true
}

// read reads an object behind its mark. Its parts stand in the order of their bytes, since they are read in that order.
func read(r *bio.Reader) api.Object {
	return api.Object{
		Name:    r.Text(),
		Key:     r.Number(4),
		Imports: readList(r, 1, readImport),
		Types:   readList(r, 1, readType),
		Data:    readByte(r),
		Text:    r.Text(),
		Code:    readList(r, 2, readWord),
		Cmds:    readList(r, 1, readCmd),
		Exports: readList(r, 1, readExport),
		Ptrs:    readList(r, 1, readByte),
		Procs:   readList(r, 1, readByte),
		Fix:     [3]int{readPlace(r), readPlace(r), readPlace(r)},
		Body:    readPlace(r),
	}
}

// readList reads how many elements there are, in so many bytes, and each of them.
func readList[T any](r *bio.Reader, width int, readOne func(*bio.Reader) T) []T {
	var list []T
	for range r.Number(width) {
		list = append(list, readOne(r))
		if r.Short() {
			return nil // such a list is never told: the others needn't be made up
		}
	}
	return list
}

func readImport(r *bio.Reader) api.Import {
	return api.Import{Name: r.Text(), Key: r.Number(4)}
}

func readType(r *bio.Reader) api.Type {
	return api.Type{Size: readPlace(r), Mod: readByte(r), Base: readBase(r)}
}

func readBase(r *bio.Reader) int {
	base := readByte(r)
	if base == noBase {
		return -1
	}
	return base
}

func readWord(r *bio.Reader) uint32 { return r.Number(4) }

func readCmd(r *bio.Reader) api.Entry {
	return api.Entry{Name: r.Text(), At: readPlace(r)}
}

func readExport(r *bio.Reader) api.Export {
	return api.Export{Kind: readByte(r), At: readPlace(r)}
}

// readByte reads a number that has one byte.
func readByte(r *bio.Reader) int { return int(r.Number(1)) }

// readPlace reads a number that has two bytes, as places and sizes do.
func readPlace(r *bio.Reader) int { return int(r.Number(2)) }

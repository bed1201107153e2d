package obj

import (
	"dowel/api"
	"dowel/bio"
)

// write writes an object, and cuts off what doesn't go into its bytes.
func write(o api.Object) []byte {
	out := bio.PutText([]byte(mark), o.Name)
	out = bio.Put(out, o.Key, 4)
	out = writeList(out, 1, o.Imports, writeImport)
	out = writeList(out, 1, o.Types, writeType)
	out = writeByte(out, o.Data)
	out = bio.PutText(out, o.Text)
	out = writeList(out, 2, o.Code, writeWord)
	out = writeList(out, 1, o.Cmds, writeCmd)
	out = writeList(out, 1, o.Exports, writeExport)
	out = writeList(out, 1, o.Ptrs, writeByte)
	out = writeList(out, 1, o.Procs, writeByte)
	for _, begin := range o.Fix {
		out = writePlace(out, begin)
	}
	return writePlace(out, o.Body)
}

// writeList writes how many elements there are, in so many bytes, and each of them.
func writeList[T any](out []byte, width int, list []T, writeOne func([]byte, T) []byte) []byte {
	most := 1<<(8*width) - 1
	list = list[:min(len(list), most)]
	out = bio.Put(out, uint32(len(list)), width)
	for _, element := range list {
		out = writeOne(out, element)
	}
	return out
}

func writeImport(out []byte, i api.Import) []byte {
	return bio.Put(bio.PutText(out, i.Name), i.Key, 4)
}

// writeType needs no case of its own for Base -1: cut off to a byte, it is 255.
func writeType(out []byte, t api.Type) []byte {
	return writeByte(writeByte(writePlace(out, t.Size), t.Mod), t.Base)
}

func writeWord(out []byte, word uint32) []byte { return bio.Put(out, word, 4) }

func writeCmd(out []byte, e api.Entry) []byte {
	return writePlace(bio.PutText(out, e.Name), e.At)
}

func writeExport(out []byte, e api.Export) []byte {
	return writePlace(writeByte(out, e.Kind), e.At)
}

// writeByte writes a number that has one byte.
func writeByte(out []byte, n int) []byte { return bio.Put(out, uint32(n), 1) }

// writePlace writes a number that has two bytes, as places and sizes do.
func writePlace(out []byte, n int) []byte { return bio.Put(out, uint32(n), 2) }

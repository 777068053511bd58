package files

import (
	"slices"
	"strings"

	"shyard/api"
)

// inode is a file with its bytes, or a directory with its entries.
type inode struct {
	kind, mode, links, holds int
	data                     []byte
	entries                  []entry // in the order of names
	parent                   int
}

type entry struct {
	name string
	ino  int
}

// find gives the place of a name among the entries, and whether it is there.
func (n *inode) find(name string) (int, bool) {
	return slices.BinarySearchFunc(n.entries, name, func(e entry, name string) int {
		return strings.Compare(e.name, name)
	})
}

// lookup gives the inode that an entry names; 0 without one.
func (n *inode) lookup(name string) int {
	i, there := n.find(name)
	if !there {
		return 0
	}
	return n.entries[i].ino
}

func (n *inode) add(name string, ino int) {
	i, _ := n.find(name)
	n.entries = slices.Insert(n.entries, i, entry{name, ino})
}

func (n *inode) remove(name string) {
	if i, there := n.find(name); there {
		n.entries = slices.Delete(n.entries, i, i+1)
	}
}

// nameOf gives the name of the entry of an inode.
func (n *inode) nameOf(ino int) string {
	for _, e := range n.entries {
		if e.ino == ino {
			return e.name
		}
	}
	return ""
}

func (n *inode) isDir() bool {
	return n.kind == api.Dir
}

// may tells whether all bits of want are among the owner's.
func (n *inode) may(want int) bool {
	return n.mode/64&want == want
}

func (n *inode) size() int {
	if n.isDir() {
		return len(n.entries)
	}
	return len(n.data)
}

// resize cuts a file's bytes, or lays bytes 0 behind them.
func (n *inode) resize(size int) {
	if size <= len(n.data) {
		n.data = n.data[:size]
		return
	}
	n.data = append(n.data, make([]byte, size-len(n.data))...)
}

package files

// Unlink takes the file at path out of the tree: NoEntry, NotDir, IsDir.
func (f *Files) Unlink(path string) uint16 {
	if f.none() {
		return 0
	}
	number, _, _ := f.tree.Find(path)
	if no := f.tree.Drop(path, false); no != 0 {
		return no
	}
	f.leave(number)
	return 0
}

// Rename puts the file that is at from to the path to, and what was there out of the tree: NoEntry, NotDir, IsDir.
func (f *Files) Rename(from, to string) uint16 {
	if f.none() {
		return 0
	}
	was, no := f.tree.Move(from, to)
	if no == 0 && was >= 0 {
		f.leave(was)
	}
	return no
}

// Mkdir makes a directory: NotDir, NoEntry, Exists, Invalid, NoSpace.
func (f *Files) Mkdir(path string) uint16 {
	if f.none() {
		return 0
	}
	_, no := f.tree.Make(path, true)
	return no
}

// Rmdir takes a directory that has nothing out of the tree: NoEntry, NotDir, NotEmpty.
func (f *Files) Rmdir(path string) uint16 {
	if f.none() {
		return 0
	}
	return f.tree.Drop(path, true)
}

// List answers how many a directory has: NoEntry, NotDir.
func (f *Files) List(path string) uint16 {
	if f.none() {
		return 0
	}
	return f.tree.Many(path)
}

// leave is for a file that is out of the tree from now on.
func (f *Files) leave(number int) {
	x := f.files[number]
	x.out = true
	f.files[number] = x
	f.forget(number)
}

// forget lets a file go that is out of the tree and not open: nobody can ask for it any more.
func (f *Files) forget(number int) {
	for _, o := range f.opens {
		if o.file == number {
			return
		}
	}
	if f.files[number].out {
		delete(f.files, number)
	}
}

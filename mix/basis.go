package mix

import "iter"

// vector is an amount, the oxygen in it, and the helium.
type vector [3]int

// column is what a plan takes from least to most of, at a price.
type column struct {
	one                vector
	least, most, cents int
}

// basis is the numbers of three columns, and three vectors: the dot of each one with its own column is den, with the two
// others 0. So they tell how much of each column makes some vector, and which weights make each column yield its price.
type basis struct {
	numbers [3]int
	vectors [3]vector
	den     int
}

// bases yields all bases of columns: each three of which none is made of the two others.
func bases(l []column) iter.Seq[basis] {
	return func(yield func(basis) bool) {
		for i := range l {
			for j := range i {
				for k := range j {
					b := basisOf(l, i, j, k)
					if b.den != 0 && !yield(b) {
						return
					}
				}
			}
		}
	}
}

// basisOf returns the basis of three columns, with den at least 0: it is 0 if they are none.
func basisOf(l []column, i, j, k int) basis {
	u, v, w := l[i].one, l[j].one, l[k].one
	den := u.dot(v.cross(w))
	if den < 0 {
		return basisOf(l, j, i, k)
	}
	return basis{[3]int{i, j, k}, [3]vector{v.cross(w), w.cross(u), u.cross(v)}, den}
}

func (v vector) plus(w vector) vector {
	return vector{v[0] + w[0], v[1] + w[1], v[2] + w[2]}
}

func (v vector) times(n int) vector {
	return vector{n * v[0], n * v[1], n * v[2]}
}

func (v vector) dot(w vector) int {
	return v[0]*w[0] + v[1]*w[1] + v[2]*w[2]
}

// cross returns a vector whose dot with v and w is 0.
func (v vector) cross(w vector) vector {
	return vector{v[1]*w[2] - v[2]*w[1], v[2]*w[0] - v[0]*w[2], v[0]*w[1] - v[1]*w[0]}
}

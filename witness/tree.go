package witness

import "moot/api"

// Read: a leaf. ErrNil, ErrRange, a Fault of ErrMissing.
func (s *Store) Read(depth int, root api.Hash, i int) (api.Hash, error) {
	leaf, _, err := s.walk(depth, root, i)
	return leaf, err
}

// Write: the root with another leaf. As Read.
func (s *Store) Write(depth int, root api.Hash, i int, leaf api.Hash) (api.Hash, error) {
	_, way, err := s.walk(depth, root, i)
	if err != nil {
		return api.Hash{}, err
	}
	h := leaf
	for height := range depth {
		p := way[depth-1-height]
		copy(side(&p, i>>height), h[:])
		h, _ = s.Add(p)
	}
	return h, nil
}

// walk: from the root on down to a leaf, and the preimages on the way.
func (s *Store) walk(depth int, root api.Hash, i int) (api.Hash, []api.Pre, error) {
	if s == nil {
		return api.Hash{}, nil, api.ErrNil
	}
	if depth < 0 || depth > api.MaxDepth || i < 0 || i >= 1<<depth {
		return api.Hash{}, nil, api.ErrRange
	}
	h := root
	way := make([]api.Pre, 0, depth)
	for level := range depth {
		p, err := s.Get(h)
		if err != nil {
			return api.Hash{}, nil, &api.Fault{At: level, Why: err}
		}
		way = append(way, p)
		copy(h[:], side(&p, i>>(depth-1-level)))
	}
	return h, way, nil
}

// side: the half of a preimage that a bit of the leaf's place tells.
func side(p *api.Pre, place int) []byte {
	if place%2 == 0 {
		return p[:half]
	}
	return p[half:]
}

package ballot

import "weirkeep/api"

// Number tells the ballot of a node's round. The round is held against the last one of that node, since the ballot of a later one may be too great for an int.
func Number(round, node int) (int, api.Errno) {
	if round < 0 || node < 0 || node >= api.MaxNode {
		return 0, api.ErrArg
	}
	if round > (api.MaxSeq-node-1)/api.MaxNode {
		return 0, api.ErrMax
	}
	return api.MaxNode*round + node + 1, api.OK
}

// Owner tells the round and the node of a ballot.
func Owner(b int) (int, int) {
	if !isBallot(b) {
		return -1, -1
	}
	return (b - 1) / api.MaxNode, (b - 1) % api.MaxNode
}

func isBallot(b int) bool { return b >= 1 && b <= api.MaxSeq }

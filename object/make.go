package object

import "replevin/lineage"

// The names of the objects of a process.
func OfProcess(owner lineage.Name) Name         { return Name{Kind: Process, Owner: owner} }
func OfRegisters(owner lineage.Name) Name       { return Name{Kind: Registers, Owner: owner} }
func OfPage(owner lineage.Name, index int) Name { return Name{Kind: Page, Owner: owner, Index: index} }
func OfTable(owner lineage.Name) Name           { return Name{Kind: Table, Owner: owner} }
func OfCounter(owner lineage.Name) Name         { return Name{Kind: Counter, Owner: owner} }
func OfPending(owner lineage.Name) Name         { return Name{Kind: Pending, Owner: owner} }
func OfShell(owner lineage.Name) Name           { return Name{Kind: Shell, Owner: owner} }

// The names of the objects of a file, a directory or a pipe.
func OfNode(b Birth) Name               { return of(Node, b, 0, "") }
func OfBlock(b Birth, index int) Name   { return of(Block, b, index, "") }
func OfEntry(b Birth, text string) Name { return of(Entry, b, 0, text) }
func OfListing(b Birth) Name            { return of(Listing, b, 0, "") }
func OfPipe(b Birth) Name               { return of(Pipe, b, 0, "") }
func OfLock(b Birth) Name               { return of(Lock, b, 0, "") }

// The names of all other objects.
func OfTerminal(number int) Name { return Name{Kind: Terminal, Number: number} }
func OfAccount(text string) Name { return Name{Kind: Account, Text: text} }
func OfClock() Name              { return Name{Kind: Clock} }
func OfPort(number int) Name     { return Name{Kind: Port, Number: number} }
func OfBox(text string) Name     { return Name{Kind: Box, Text: text} }
func OfEpoch() Name              { return Name{Kind: Epoch} }
func OfOut(owner lineage.Name, number, tick int) Name {
	return Name{Kind: Out, Owner: owner, Number: number, Index: tick}
}

func of(kind int, b Birth, index int, text string) Name {
	return Name{Kind: kind, Owner: b.Maker, Number: b.Number, Index: index, Text: text}
}

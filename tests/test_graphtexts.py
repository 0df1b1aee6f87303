"""Point 8: texts of graphs."""

import unittest

from bridgeward.errors import InvalidText
from bridgeward.graphs import Graph
from bridgeward.graphtexts import read_graph
from samples import full_graphs, random_graph

HEAD = "nodes a b\nedge x a b 1 2\n"
GOOD = "edge y b a -3 4"


class TestTexts(unittest.TestCase):
    def check_wrong(self, text, at):
        with self.assertRaises(InvalidText) as caught:
            read_graph(text)
        self.assertEqual((caught.exception.text, caught.exception.at), (text, at))

    def check_wrong_line(self, line):
        """The line is wrong as the third one, whatever follows it."""
        self.check_wrong(HEAD + line, len(HEAD))
        self.check_wrong(HEAD + line + "\nedge z a b 1 1", len(HEAD))
        self.check_wrong(HEAD + line + "\n\nedge x", len(HEAD))

    def test_str(self):
        self.assertEqual(str(Graph((), ())), "nodes")
        self.assertEqual(str(Graph(("a",), ())), "nodes a")
        graph = Graph(("b", "a"), (("y", "b", "a", -30, 0), ("x", "a", "a", 0, 10 ** 11)))
        self.assertEqual(str(graph), "nodes b a\nedge y b a -30 0\nedge x a a 0 100000000000")
        self.assertEqual(read_graph(str(graph)), graph)

    def test_there_and_back(self):
        graphs = [random_graph(seed, most_nodes=6, most_edges=9, prices=(-99, 99)) for seed in range(100)]
        for graph in graphs + full_graphs() + [Graph((), ()), Graph(("abcdefgh",), ())]:
            self.assertEqual(read_graph(str(graph)), graph)
            self.assertEqual(str(read_graph(str(graph))), str(graph))

    def test_read(self):
        graph = read_graph(HEAD + GOOD)
        self.assertIs(type(graph), Graph)
        self.assertEqual(graph.nodes, ("a", "b"))
        self.assertEqual(graph.edges, (("x", "a", "b", 1, 2), ("y", "b", "a", -3, 4)))

    def test_twelve_figures(self):
        for figures in ("999999999999", "-999999999999", "0", "100000000000", "-1"):
            self.assertEqual(read_graph(HEAD + "edge y a b " + figures + " 7")["y"][3], int(figures))
        self.assertEqual(read_graph(HEAD + "edge y a b 0 999999999999")["y"][4], 999999999999)

    def test_wrong_integers(self):
        wrong = [
            "1000000000000", "00", "01", "-0", "-00", "-01", "--1", "+1", "-", "", "1.0", "1e1", "a", "1_0", "0x1",
            "\u0661", "\u00b2", "None", "1\t", "1\r", "12345678901234567890",
        ]
        for figures in wrong:
            self.check_wrong_line("edge y a b " + figures + " 1")
            self.check_wrong_line("edge y a b 1 " + figures)
        self.check_wrong_line("edge y a b -1000000000000 1")
        for figures in ("-1", "-999999999999"):
            self.check_wrong_line("edge y a b 1 " + figures)

    def test_wrong_blanks(self):
        for at in range(len(GOOD) + 1):
            if at in (0, len(GOOD)) or GOOD[at] == " ":
                self.check_wrong_line(GOOD[:at] + " " + GOOD[at:])
        self.check_wrong_line(GOOD.replace(" ", "\t"))
        self.check_wrong_line(GOOD.replace(" ", "\u00a0"))

    def test_wrong_words(self):
        words = GOOD.split(" ")
        for at in range(len(words)):
            self.check_wrong_line(" ".join(words[:at] + words[at + 1:]))
            self.check_wrong_line(" ".join(words[:at + 1] + words[at:]))
        for line in ("", " ", "edge", "Edge y a b 1 1", "edges y a b 1 1", "nodes a b", "nodes", "y a b 1 1", "\r"):
            self.check_wrong_line(line)

    def test_wrong_names(self):
        for name in ("A", "", "abcdefghi", "a1", "\u00e9", "1"):
            self.check_wrong_line("edge " + name + " a b 1 1")
            self.check_wrong_line("edge y " + name + " b 1 1")
            self.check_wrong_line("edge y a " + name + " 1 1")

    def test_what_makes_no_graph(self):
        self.check_wrong_line("edge x a b 1 1")
        self.check_wrong_line("edge y c b 1 1")
        self.check_wrong_line("edge y a c 1 1")

    def test_labels_that_came_earlier(self):
        text = HEAD + GOOD + "\nedge z a a 0 0\n"
        self.check_wrong(text + "edge y a a 0 0", len(text))
        self.assertEqual(len(read_graph(text + "edge a a a 0 0").edges), 4)

    def test_first_line(self):
        wrong = [
            "", " ", "node", "nodes ", " nodes", "nodes  a", "nodes a ", "nodes a  b", "nodes\ta", "Nodes a", "nodesa",
            "nodes a a", "nodes b a b", "nodes A", "nodes abcdefghi", "nodes a1", "edge x a a 0 0", "nodes a\r",
        ]
        for line in wrong:
            self.check_wrong(line, 0)
            self.check_wrong(line + "\nedge x a a 0 0", 0)
            self.check_wrong(line + "\nedge", 0)
        self.check_wrong("\nnodes a", 0)

    def test_line_feed_at_the_end(self):
        for text in ("nodes", "nodes a", HEAD + GOOD):
            self.check_wrong(text + "\n", len(text) + 1)
            self.check_wrong(text + "\n\n", len(text) + 1)
        self.check_wrong("\n", 0)

    def test_graphs_of_any_size(self):
        names = [one + two for one in "abcdefghijklmnopqrst" for two in "abcdefghijklmnopqrstuvwxyz"]
        edges = [(name, name, names[0], 0, 0) for name in names]
        graph = Graph(names, edges)
        self.assertEqual(read_graph(str(graph)), graph)
        text = str(graph) + "\nedge zz aa zz 0 0"
        self.check_wrong(text, len(str(graph)) + 1)


if __name__ == "__main__":
    unittest.main()

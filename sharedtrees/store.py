"""The object that the calls work on: its versions and the nodes they share."""

from sharedtrees.limits import MOST_NODES, MOST_VERSIONS, TOO_MANY_NODES, TOO_MANY_VERSIONS
from sharedtrees.nodes import NOTHING, Nodes
from sharedtrees.trees import gather_needed, put_value, take_out


class Version:
    def __init__(self, top, parents):
        self.top = top
        self.parents = parents
        self.held = True


class Store:
    def __init__(self):
        self.nodes = Nodes()
        self.versions = [Version(NOTHING, ())]

    def is_there(self, version):
        return version < len(self.versions)

    def is_held(self, version):
        return self.is_there(version) and self.versions[version].held

    def top_of(self, version):
        return self.versions[version].top

    def parents_of(self, version):
        return self.versions[version].parents

    # The version keeps its place and its parents: lines still lead through it.
    def drop(self, version):
        dropped = self.versions[version]
        dropped.held = False

    def collect(self):
        return self.nodes.keep_only(self.needed_by(self.held_versions()))

    # A parent's number is always below its child's, so one walk downwards meets the whole line.
    def line_of(self, version):
        line = {version: True}
        for number in range(version, -1, -1):
            if number in line:
                for parent in self.parents_of(number):
                    line[parent] = True
        return line

    def common_of(self, version, other):
        line = self.line_of(other)
        return max([number for number in self.line_of(version) if number in line])

    def needed_by(self, versions):
        needed = {}
        for version in versions:
            gather_needed(self.nodes, self.top_of(version), needed)
        return needed

    def held_versions(self):
        return [number for number in range(len(self.versions)) if self.is_held(number)]

    # Answers the new version and how many nodes are new, or a refusal. A write's value is None to take its key out.
    def make_version(self, top, writes, parents):
        if len(self.versions) >= MOST_VERSIONS:
            return [TOO_MANY_VERSIONS]
        made = self.nodes.made
        for write in writes:
            top = self.written(top, write[0], write[1])
            # No later write can bring the number made down again.
            if self.nodes.made > MOST_NODES:
                self.nodes.undo_since(made)
                return [TOO_MANY_NODES]
        self.versions.append(Version(top, parents))
        return [len(self.versions) - 1, self.nodes.made - made]

    def written(self, top, key, value):
        if value is None:
            return take_out(self.nodes, top, key)
        return put_value(self.nodes, top, key, value)

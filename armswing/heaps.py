"""Heaps: lists of tuples out of which the least is taken first."""


def heap_put(heap, thing):
    heap.append(thing)
    at = len(heap) - 1
    while at > 0 and thing < heap[(at - 1) // 2]:
        heap[at] = heap[(at - 1) // 2]
        at = (at - 1) // 2
    heap[at] = thing


def heap_take(heap):
    if not heap:
        return None
    least = heap[0]
    last = heap.pop()
    if heap:
        sink(heap, last)
    return least


def lesser_child(heap, at):
    child = 2 * at + 1
    if child + 1 < len(heap) and heap[child + 1] < heap[child]:
        return child + 1
    return child


def sink(heap, thing):
    at = 0
    child = lesser_child(heap, at)
    while child < len(heap) and heap[child] < thing:
        heap[at] = heap[child]
        at = child
        child = lesser_child(heap, at)
    heap[at] = thing
